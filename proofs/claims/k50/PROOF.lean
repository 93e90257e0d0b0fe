import PyProof.Rows.All
import Wide.All
import OpenK.AllK
import Wide.FinOn
import PyProof.EqAt
import PyProof.EqKinds
import PyProof.TupleCall
import HandS.ForMost
import HandS.ForExc
import HandS.Wide
import HandS.IsInst
import HandS.SortInts
import HandS.Strs
import HandS.SetFor
import HandS.Conv
import HandS.Small
import HandS.Defaults
import HandS.Walk
import HandS.Flow
import HandS.Codes
import HandS.ExcInit
import HandS.ExcField
import HandS.Style
import HandS.TryMany
import PySem.Challenge.RW_risingcalls_k50_weights_floors_and_cheap
import HandS.Text
import HandS.Property
import HandS.TupAny
import HandS.TupMul
import HandS.Zip
import KE.GoesZip
import KE.GoesEnum
import KE.GoesMore
import KE.KTupSum
import PyProof.SumAny
import PyProof.Draws
import PyProof.ReprRoads
import PyProof.ReprLen
set_option Elab.async false
set_option linter.all false
set_option maxRecDepth 100000
set_option maxHeartbeats 2000000

/-! ### my words for readings: one lemma a construct, by the head of the reading -/
namespace Jv
open PySem PySem.Spec PyProof.Rows L2
section
variable {K : PySem.W.Frag} {σ : L2.St} {H : Hp} {D : Ends} {t u : TS} {te ta tb tc : TE} {g : TG} {tt tu : TT} {tA : TA} {i : Nat} {v x y z : V} {Q : VK} {R : Bool → Hp → Prop}
theorem r_seq (h : t { D with nx := u D } σ H) : tSeq t u D σ H := h
theorem r_asg (h : te σ H fun x H1 => g x σ H1 D.nx) : tAsg te g D σ H := h
theorem r_gn {Q : L2.St → Hp → Prop} (h : Q (σ.set i (some v)) H) : gName i v σ H Q := h
theorem r_ret (h : te σ H D.rt) : tRet te D σ H := h
theorem r_retN (h : D.rt .non H) : tRetN D σ H := h
theorem r_drop (h : te σ H fun _ H1 => D.nx σ H1) : tDrop te D σ H := h
theorem r_if (h : tt σ H fun b H1 => if b = true then t D σ H1 else u D σ H1) : tIfS tt t u D σ H := h
theorem r_next (h : D.nx σ H) : tNext D σ H := h
theorem r_brk (h : D.bk σ H) : tBreak D σ H := h
theorem r_cont (h : D.ct σ H) : tCont D σ H := h
theorem r_var (h : σ[i]? = some (some v)) (q : Q v H) : tVar i σ H Q := ⟨v, h, q⟩
theorem r_c (q : Q v H) : tC v σ H Q := q
theorem r_op {r : R2} (h : ta σ H fun x H1 => tb σ H1 fun y H2 => r x y H2 Q) : tOp r ta tb σ H Q := h
theorem r_un {r : V → Hp → VK → Prop} (h : ta σ H fun x H1 => r x H1 Q) : tUn r ta σ H Q := h
theorem r_I {C : Int → Int → Prop} {f : Int → Int → V} {a b : Int} (c : C a b) (q : Q (f a b) H) : rI C f (.int a) (.int b) H Q := ⟨a, b, rfl, rfl, c, q⟩
theorem r_I0 {f : Int → Int → V} {a b : Int} (q : Q (f a b) H) : rI0 f (.int a) (.int b) H Q := ⟨a, b, rfl, rfl, q⟩
theorem r_U {f : Int → V} {a : Int} (q : Q (f a) H) : rU f (.int a) H Q := ⟨a, rfl, q⟩
theorem r_eq (s : scal x y = true) (q : Q (.bl (decide (x = y))) H) : rEq x y H Q := ⟨s, q⟩
theorem r_ne (s : scal x y = true) (q : Q (.bl (!decide (x = y))) H) : rNe x y H Q := ⟨s, q⟩
theorem r_test (h : te σ H fun x H1 => ∃ k, x = .bl k ∧ R k H1) : tTest te σ H R := h
theorem r_B (h : te σ H fun x H1 => ∃ k, x = .bl k ∧ R k H1) : tB te σ H R := h
theorem r_bl {b : Bool} {P : Bool → Prop} (q : P b) : ∃ k, V.bl b = .bl k ∧ P k := ⟨b, rfl, q⟩
theorem r_and (h : tt σ H fun c H1 => if c = true then tu σ H1 R else R false H1) : tAnd tt tu σ H R := h
theorem r_or (h : tt σ H fun c H1 => if c = true then R true H1 else tu σ H1 R) : tOr tt tu σ H R := h
theorem r_not (h : tt σ H fun c H1 => R (!c) H1) : tNot tt σ H R := h
theorem r_andV (h : ta σ H fun x H1 => ∃ c, x = .bl c ∧ if c = true then tb σ H1 Q else Q (.bl false) H1) : tAndV ta tb σ H Q := h
theorem r_orV (h : ta σ H fun x H1 => ∃ c, x = .bl c ∧ if c = true then Q (.bl true) H1 else tb σ H1 Q) : tOrV ta tb σ H Q := h
theorem r_notV (h : ta σ H fun x H1 => ∃ c, x = .bl c ∧ Q (.bl (!c)) H1) : tNotV ta σ H Q := h
theorem r_ife (h : tt σ H fun c H1 => if c = true then ta σ H1 Q else tb σ H1 Q) : tIf tt ta tb σ H Q := h
theorem r_chain {r r' : R2} (h : ta σ H fun x H1 => tb σ H1 fun y H2 => r x y H2 fun z H3 => ∃ k, z = .bl k ∧
  (if k = true then tc σ H3 fun w' H4 => r' y w' H4 Q else Q (.bl false) H3)) : tChain r r' ta tb tc σ H Q := h
theorem r_nil {P : List V → Hp → Prop} (q : P [] H) : tNil σ H P := q
theorem r_cons {P : List V → Hp → Prop} (h : ta σ H fun x H1 => tA σ H1 fun xs H2 => P (x :: xs) H2) : tCons ta tA σ H P := h
theorem r_tup (h : tA σ H fun xs H1 => xs.length ≤ sizeLine ∧ ∀ p, H1 p = none → Q (.ref p) (upd H1 p (.tup xs))) : tTup tA σ H Q := h
theorem r_lst (h : tA σ H fun xs H1 => xs.length ≤ sizeLine ∧ ∀ p, H1 p = none → Q (.ref p) (upd H1 p (.lst xs))) : tLst tA σ H Q := h
theorem r_new {n : Nat} {P : Prop} (h1 : n ≤ 1000) (q : P) : n ≤ sizeLine ∧ P := ⟨Nat.le_trans h1 (by decide), q⟩
theorem r_CB {r : List V → Hp → VK → Prop} (h : tA σ H fun vs H1 => r vs H1 Q) : tCB r tA σ H Q := h
theorem r_call {sp : Sp} {dvs : List V} {E : XK} (h : tA σ H fun vs H1 => sp (vs ++ dvs) H1 Q E) : tCall sp dvs E tA σ H Q := h
theorem r_callS {sp : Sp} {E : L2.St → XK} (h : tA σ H fun vs H1 => sp vs H1 Q (E σ)) : tCallS sp E tA σ H Q := h
theorem r_for {wi : TI} (h : wi σ H fun J H1 => ∃ W : Nat → Nat → L2.St → Hp → Prop, (∃ m, W 0 m σ H1) ∧ ∀ i m σ H, W i m σ H →
  (J.stop i H ∧ D.nx σ H) ∨ (J.go i H ∧ ∃ N : L2.St → Hp → Prop, (∀ σ' H', N σ' H' → ∃ m', m' < m ∧ W (i + 1) m' σ' H') ∧ ∀ x H', J.yld i H x H' → g x σ H' fun σ2 H2 => t { D with nx := N, ct := N, bk := D.nx } σ2 H2)) : tFor wi g t D σ H := h
theorem r_iR1 {P : It → Hp → Prop} (h : tA σ H fun vs H1 => ∃ j : Int, vs = [.int j] ∧ -(2 ^ 62) ≤ j ∧ j < 2 ^ 62 ∧ P (Itr 0 j.toNat) H1) : iRng1 tA σ H P := h
theorem r_iR2 {P : It → Hp → Prop} (h : tA σ H fun vs H1 => ∃ i j : Int, vs = [.int i, .int j] ∧ (-(2 ^ 62) ≤ i ∧ i < 2 ^ 62 ∧ -(2 ^ 62) ≤ j ∧ j < 2 ^ 62) ∧ P (Itr i (j - i).toNat) H1) : iRng2 tA σ H P := h
theorem r_sub {to ti : TE} {w : TSet} {Q : L2.St → Hp → Prop} (h : to σ H fun o H1 => ti σ H1 fun i H2 => w o i v H2 fun H3 => Q σ H3) : gSub to ti w v σ H Q := h
theorem r_ixL {p : Addr} {xs : List V} {k : Int} (h : SqL K H p xs) (e : atI xs k = some v) (q : Q v H) : rIxL K (.ref p) (.int k) H Q := ⟨p, xs, k, v, rfl, rfl, h, e, q⟩
theorem r_ixT {p : Addr} {xs : List V} {k : Int} (h : SqT K H p xs) (e : atI xs k = some v) (q : Q v H) : rIxT K (.ref p) (.int k) H Q := ⟨p, xs, k, v, rfl, rfl, h, e, q⟩
theorem r_setL {p : Addr} {xs : List V} {k : Int} {j : Nat} {P : Hp → Prop} (h : H p = some (.lst xs)) (e : ixN xs.length k = some j) (q : P (upd H p (.lst (xs.set j v)))) : rSetL (.ref p) (.int k) v H P := ⟨p, xs, k, j, rfl, rfl, h, e, q⟩
theorem r_true {A B : Prop} {c : Bool} (e : c = true) (h : A) : if c = true then A else B := by rw [if_pos e]; exact h
theorem r_false {A B : Prop} {c : Bool} (e : c = false) (h : B) : if c = true then A else B := by rw [e, if_neg Bool.false_ne_true]; exact h
theorem r_dec {A B p : Prop} {_ : Decidable p} (h1 : p → A) (h2 : ¬ p → B) : if decide p = true then A else B := by
  by_cases h : p
  · exact r_true (decide_eq_true h) (h1 h)
  · exact r_false (decide_eq_false h) (h2 h)
theorem r_ndec {A B p : Prop} {_ : Decidable p} (h1 : ¬ p → A) (h2 : p → B) : if (!decide p) = true then A else B := by
  by_cases h : p
  · exact r_false (by rw [decide_eq_true h]; rfl) (h2 h)
  · exact r_true (by rw [decide_eq_false h]; rfl) (h1 h)
theorem r_bool {A B : Prop} {c : Bool} (h1 : c = true → A) (h2 : c = false → B) : if c = true then A else B := by
  cases c
  · exact r_false rfl (h2 rfl)
  · exact r_true rfl (h1 rfl)
theorem r_int {a : Int} {P : Int → Prop} {P' : Bool → Prop} (q : P a) : (∃ i, [V.int a] = [.int i] ∧ P i) ∨ ∃ k, [V.int a] = [.bl k] ∧ P' k := .inl ⟨a, rfl, q⟩
theorem small_of {n : Nat} (h : n ≤ 1000) : n ≤ sizeLine := Nat.le_trans h (by decide)
theorem small_lt {n : Nat} (h : n < 1000) : n < sizeLine := Nat.lt_of_lt_of_le h (by decide)
/-- what stands ahead of a new object, stands behind it -/
theorem kp {a p : Addr} {o u : HO} (h : H a = some o) (n : H p = none) : upd H p u a = some o := by rw [upd_ne (ne_of_none h n)]; exact h
theorem kpO {a l : Addr} {o u : HO} (h : H a = some o) (n : a ≠ l) : upd H l u a = some o := by rw [upd_ne n]; exact h
theorem same_new {p : Addr} {u : HO} (n : H p = none) : Same H (upd H p u) := fun _ _ e => kp e n
theorem Same.sqT {H' : Hp} {a : Addr} {xs : List V} (e : Same H H') (h : SqT K H a xs) : SqT K H' a xs := by
  rcases h with (h | ⟨o, h⟩) | h
  · exact .inl (.inl (e _ _ h))
  · exact .inl (.inr ⟨o, e _ _ h⟩)
  · exact .inr h
end
end Jv

/-! ### rules that the layer lacks: set(x), sorted(x) of a list or a tuple of ints; X() of an own exception; what the top says of exceptions -/
namespace JvS
open PySem PySem.Spec PyProof.Rows L2 SrtO
section
variable {P : Program} {w : World} {A : Around} {E : Value → Shared → Prop} {s : Shared}
/-- the empty set that set() begins with -/
abbrev emptyS (w : World) : Obj := { cls := .type "set", dict := none, data := .set #[] 0 (.fresh 0 0 (!w.params.followText "set-order")) }
theorem set_listI {l : Addr} {items : Array Value} (ns : List Int) {Q : Value → Shared → Prop} (hh : A.handled = none) (hl : s.heap.IsList l items) (hv : IntsAre items.toList ns) (few : ns.length + 1 < scanBound)
    (h : ∀ (h' : Heap) (tk c : Nat), SetR w h' s.heap.objs.size (fun j => decide (j ∈ ns)) c → c ≤ ns.length → (∀ b o, s.heap.get? b = some o → h'.get? b = some o) → Q (.ref s.heap.objs.size) { s with heap := h', toks := tk }) :
    wpAny (model P w) A (call (.type "set") [.ref l]) Q E s := by
  have sz : items.size = ns.length := by simpa using IntsAre.length hv
  obtain ⟨cM, tM, eM⟩ := F.called_set.mro
  have e1 := F.called_set.made; have e2 := F.called_set.sub; have e3 := F.called_set.notType; have e4 := F.called_set.canCreate; have e5 := F.typeCall_set_1 (.ref l)
  refine wpAny_call (codeAny_of_tree (show wpAny _ _ (callAny (.type "set") _) _ _ _ from wpAny_pure ⟨Code.quiet_builtin _ (by decide +kernel), codeAny_builtin F.entry_type_call ?_⟩))
  rw [Around.under_plain (weight_type_call_type "set" [.ref l] []) rfl]
  repeat any_goals (first | wp_step | assumption)
  refine codeAny_mono (code_set_led1 (P := P) (.ref l) (E := E) (Q₁ := fun v s1 => v = .ref s.heap.objs.size ∧ s1 = { s with heap := s.heap.push (emptyS w) }) ⟨rfl, rfl⟩) fun r s1 hr => ?_
  cases r with
  | error e => exact hr
  | ok fl =>
    cases fl with
    | next => exact hr.elim
    | brk => exact hr.elim
    | cont => exact hr.elim
    | ret v =>
      obtain ⟨rfl, rfl⟩ := hr
      have atS : (s.heap.push (emptyS w)).get? s.heap.objs.size = some (emptyS w) := Heap.get?_push_size _ rfl
      have tyS : Shared.TypeIs { s with heap := s.heap.push (emptyS w) } (.ref s.heap.objs.size) "set" := ⟨_, atS, rfl⟩
      have e6 := F.called_set.init.lookup; have e7 := F.called_set.init.bind (.ref s.heap.objs.size)
      repeat any_goals (first | wp_step | assumption)
      refine codeAny_mono (codeAny_call_builtin (R := wants (fun r s2 => r = .none ∧ ∃ h' tk c, s2 = { s with heap := h', toks := tk } ∧ SetR w h' s.heap.objs.size (fun j => decide (j ∈ ns)) c ∧ c ≤ ns.length ∧
        ∀ b o, s.heap.get? b = some o → h'.get? b = some o) E) F.called_set.init.plain F.entry_set_init (check_set_init_1 tyS ?_)) fun r2 s2 hr2 => ?_
      · have old : ∀ b o, s.heap.get? b = some o → (s.heap.push (emptyS w)).get? b = some o := fun b o q => Heap.get?_push_of_some _ q
        have lS : l < s.heap.objs.size := by obtain ⟨o, q, _⟩ := hl; exact Heap.lt_size q
        obtain ⟨⟨oc, od, dt, sl⟩, ol, q1, n1, q2⟩ := hl
        simp only at q1 q2; subst q1 q2
        have ol2 := old _ _ ol
        have isl : (s.heap.push (emptyS w)).IsList l items := ⟨_, ol2, rfl, n1, rfl⟩
        have b1 := F.sub_list_set; have b2 := F.sub_list_frozenset; have b3 : (Value.type "list" == Value.type "dict") = false := by decide
        unfold Builtin.«set.__init__» noKeywords Builtin.Frozenset.updateFrom
        generalize walkIt : pyIter = PI
        wp_walk
        subst walkIt
        refine wpAny_pyIter_list isl (wpAny_bind (wpAny_runValue ?_))
        have more : (s.heap.push (emptyS w)).objs.size = s.heap.objs.size + 1 := Heap.size_push ..
        have hh3 : A.in1.in1.in1.handled = none := by simp [hh]
        have lI : l ≠ (s.heap.push (emptyS w)).objs.size := by rw [more]; exact Nat.ne_of_lt (Nat.lt_succ_of_lt lS)
        have nS : s.heap.objs.size ∉ [(s.heap.push (emptyS w)).objs.size, l] := by
          rw [more]; simp only [List.mem_cons, List.not_mem_nil, or_false, not_or]
          exact ⟨Nat.ne_of_lt (Nat.lt_succ_self _), Nat.ne_of_gt lS⟩
        refine set_update_ints ((Walks.list hh3 _ l lI items).toS) s.heap.objs.size nS ns sz few (fun i v q => ?_) (items.size - 0) 0 _ (by omega) (Nat.zero_le _) ⟨⟨_, Heap.get?_push_size _ rfl, rfl, rfl⟩, isl.push _⟩ ⟨0, Nat.le_refl 0, setR_new_at (Heap.get?_push_of_some _ atS)⟩ fun s3 c hm hc hS => ?_
        · have hi : i < ns.length := by rw [← sz]; exact (Array.getElem?_eq_some_iff.mp q).1
          obtain ⟨t, e⟩ := PyProof.Rows.IntsAre.int_at hv i v (by rw [Array.getElem?_toList]; exact q)
          exact ⟨ns[i], t, List.getElem?_eq_getElem hi, by rw [e, List.getD_eq_getElem?_getD, List.getElem?_eq_getElem hi]; rfl⟩
        · obtain ⟨h3, g3, d3, t3, o3⟩ := s3
          obtain rfl : g3 = s.gens := hm.gens
          obtain rfl : d3 = s.drawn := hm.drawn
          obtain rfl : o3 = s.os := hm.os
          rw [sz] at hc
          refine wpAny_pure (show wpAny _ _ (ret Value.none) _ _ _ from wpAny_pure ⟨rfl, h3, t3, c, rfl, hS, hc, fun b o e => ?_⟩)
          have lb : b < s.heap.objs.size := Heap.lt_size e
          exact hm.heap b o (by
            rw [more]; simp only [List.mem_cons, List.not_mem_nil, or_false, not_or]
            exact ⟨Nat.ne_of_lt lb, Nat.ne_of_lt (Nat.lt_succ_of_lt lb)⟩) (Heap.get?_push_of_some _ (old _ _ e))
      · cases r2 with
        | error e => exact hr2
        | ok f2 =>
          cases f2 with
          | next => exact hr2.elim
          | brk => exact hr2.elim
          | cont => exact hr2.elim
          | ret r =>
            obtain ⟨rfl, h', tk, c, rfl, hS, hc, keep⟩ := hr2
            repeat any_goals (first | wp_step | assumption)
            exact h _ _ _ hS hc keep
end
end JvS
namespace Jv
open PySem PySem.Spec PyProof.Rows L2
section
variable {X : Cx}
/-- set(x), x a list or a tuple of ints -/
def rSetI (K : PySem.W.Frag) (w : World) : List V → Hp → VK → Prop := fun xs H Q => ∃ (l : Addr) (ns : List Int), xs = [.ref l] ∧ (SqL K H l (ns.map V.int) ∨ SqT K H l (ns.map V.int)) ∧ ns.length ≤ 1000 ∧
  ∀ p c, H p = none → c ≤ ns.length → Q (.ref p) (upd H p (SetO w p (fun j => decide (j ∈ ns)) c))
theorem cr_setI (hc : X.calm = true) : CallR X (.type "set") (rSetI X.K X.w) := by
  intro pins s σ H xs us Q I r h
  obtain ⟨l, ns, rfl, hs, few, q⟩ := h
  rw [Vals.ref1 r]
  have fin : ∀ (h' : Heap) (tk c : Nat), SetR X.w h' s.heap.objs.size (fun j => decide (j ∈ ns)) c → c ≤ ns.length → (∀ b o, s.heap.get? b = some o → h'.get? b = some o) →
      EP X pins σ Q (.ref s.heap.objs.size) { s with heap := h', toks := tk } := fun h' tk c R hcn keep =>
    ⟨.ref s.heap.objs.size, upd H s.heap.objs.size (SetO X.w s.heap.objs.size (fun j => decide (j ∈ ns)) c), I.laid (t' := tk) keep (Nat.le_refl _) (setO_new R), rfl, q _ c (I.hok.fresh (Nat.le_refl _)) hcn⟩
  rcases hs with hs | hs
  · obtain ⟨its, rv, hl, hz⟩ := I.list hs
    exact JvS.set_listI ns (I.ok.hd hc) hl.isList (by simpa using ints_of_vals rv) (by unfold scanBound; omega) fin
  · obtain ⟨its, rv, ht, hz⟩ := I.tuple hs
    exact call_set_tupI ns (I.ok.hd hc) (show s.heap.IsTuple l its.toArray from ht) (by simpa using ints_of_vals rv) (by unfold scanBound; omega) fin
/-- either of two rules for a call -/
theorem crOr {f : Value} {r r' : List V → Hp → VK → Prop} (h : CallR X f r) (h' : CallR X f r') : CallR X f (fun xs H Q => r xs H Q ∨ r' xs H Q) := fun pins s σ H xs us Q I rv q =>
  q.elim (fun q => h pins s σ H xs us Q I rv q) fun q => h' pins s σ H xs us Q I rv q
end
/-- an own error class without an __init__ of its own -/
structure ExcP (K : PySem.W.Frag) (C : Addr) : Prop where
  x : PySem.W.excIn K C [.type "ValueError", .type "Exception", .type "BaseException", .type "object"] "ValueError.__new__" = true
  k : PySem.W.keepIn K (.ref C) = true
  b : PySem.W.subIn K (.ref C) (.type "BaseException") = some true
  t : PySem.W.typeIn K (.ref C) = some (.type "type")
  i : PySem.W.isClsIn K C = true
  s : PySem.W.subIn K (.ref C) (.ref C) = some true
theorem exm_of {K : PySem.W.Frag} {C : Addr} (b : PySem.W.subIn K (.ref C) (.type "BaseException") = some true) (i : PySem.W.isClsIn K C = true) (t : PySem.W.typeIn K (.ref C) = some (.type "type")) (s : PySem.W.subIn K (.ref C) (.ref C) = some true) :
    PySem.W.exmOne K (.ref C) (.ref C) = some true := by
  have i' : (PySem.W.clsIn K C).isSome = true := i
  unfold PySem.W.exmOne PySem.W.kitCls
  simp [b, i', t, s]
theorem ExcP.e {K : PySem.W.Frag} {C : Addr} (h : ExcP K C) : PySem.W.exmOne K (.ref C) (.ref C) = some true := exm_of h.b h.i h.t h.s
theorem ExcP.raises {X : Cx} {C : Addr} (h : ExcP X.K C) : Raises X (.ref C) := raises_own h.b h.t
/-- .. with one, at fI -/
structure ExcI (K : PySem.W.Frag) (C fI : Addr) : Prop where
  o : OexC K C
  n : PySem.W.findIn K (.ref C) "__init__" = some (some (.ref fI))
  y : PySem.W.typeIn K (.ref fI) = some (.type "function")
  i : PySem.W.isClsIn K C = true
  s : PySem.W.subIn K (.ref C) (.ref C) = some true
  f : XfC K C
theorem ExcI.e {K : PySem.W.Frag} {C fI : Addr} (h : ExcI K C fI) : PySem.W.exmOne K (.ref C) (.ref C) = some true := exm_of h.o.exC h.i h.o.tyC h.s
section
variable {X : Cx}
/-- X() -/
theorem pmk_own0 {C : Addr} {bmB : List Value} {B newId initId : String} {x : Str} {p pos : Pos} (F : ExcBaseFacts B newId initId bmB) (q : PySem.W.excIn X.K C bmB newId = true) (gC : X.mg x = some (.ref C))
    (kC : PySem.W.keepIn X.K (.ref C) = true) (r : Raises X (.ref C)) (hg : Gl X x) (hdb : (x == ("__debug__" : Str)) = false := by decide) : PMk X (.Call (.Name x p) [] [] pos) (fun _ H Q => Q (.ref C) none H) := by
  intro pins s σ H Q I h
  refine wpAny_Call_Name_kw (ld_glob I hg gC (PySem.W.callWith_K0 I.kIn kC ?_) hdb)
  obtain ⟨bm, N, nm, qn, bs, hdct, sn, sub, ab, col, dd, k0, k1, k2, k3, k5, mN, hC, hN, hni, T⟩ := exc_obj I.kIn q
  exact wpAny_call_exc_subT F T hC hN hni (fun h' e hm => mk_of I hm r h (I.hok.gone hm.new)) (Nat.zero_le _)
end
end Jv

/-! ### binding with defaults -/
namespace Jv
open PySem PySem.Spec PyProof.Rows L2
section
variable {K : PySem.W.Frag} {fd : FuncData} {ps : List Str} {T : Addr} {o : Obj} {its : Array Value} {n : Nat}
theorem bindsD {ds : List Value} {m : Nat} (l : K.lookup T = some o) (hd : o.data = .seq its n) (hm : m + ds.length = ps.length)
    (h : ∀ us : List Value, us.length = m → ∃ k, bindArgs fd ⟨us, []⟩ = seqItems? (.ref T) >>= k ∧ k (some its) = pure (ps.zip (us ++ ds))) : Binds K fd ps ds := fun s us X hl => by
  obtain ⟨k, e1, e2⟩ := h us (by rw [List.length_append] at hl; omega)
  refine BindsTo.of_looks fun M => ?_
  rw [e1]
  exact looks_items X l hd (.of_pure e2)
theorem kbD {m : Nat} {ks : List Str} {g : List Value → List Value → List Value} {gV : List V → List V → List V} (l : K.lookup T = some o) (hd : o.data = .seq its n)
    (h : ∀ us ws : List Value, us.length = m → ws.length = ks.length → ∃ k, bindArgs fd ⟨us, ks.zip ws⟩ = seqItems? (.ref T) >>= k ∧ k (some its) = pure (ps.zip (g us ws)))
    (rel : ∀ {vs : List V} {us : List Value} {zs : List V} {ws : List Value}, Vals vs us → Vals zs ws → Vals (gV vs zs) (g us ws)) : KBn K fd ps m ks g gV := by
  refine ⟨fun s us ws X h1 h2 => ?_, rel⟩
  obtain ⟨k, e1, e2⟩ := h us ws h1 h2
  refine BindsTo.of_looks fun M => ?_
  rw [e1]
  exact looks_items X l hd (.of_pure e2)
end
end Jv
namespace Jv
open PySem PySem.Spec PyProof.Rows L2
section
variable {K : PySem.W.Frag} {σ : L2.St} {H : Hp} {D : Ends} {t u : TS} {te ta tb tc : TE} {g : TG} {tt tu : TT} {tA : TA} {i : Nat} {v x y z : V} {Q : VK} {R : Bool → Hp → Prop}
theorem r_gtup {T : Addr} {xs : List V} {n : Nat} {gs : TGs} {Q : L2.St → Hp → Prop} (h : SqT K H T xs) (hl : xs.length = n) (q : gs xs σ H Q) : gTup K n gs (.ref T) σ H Q := ⟨T, xs, rfl, h, hl, q⟩
theorem r_gcons {gs : TGs} {xs : List V} {Q : L2.St → Hp → Prop} (q : g v σ H fun σ' H' => gs xs σ' H' Q) : gCons g gs (v :: xs) σ H Q := ⟨v, xs, rfl, q⟩
theorem r_gnil {Q : L2.St → Hp → Prop} (q : Q σ H) : gNil [] σ H Q := ⟨rfl, q⟩
theorem r_lc {wi : TI} {vs : List Nat} (h : wi σ H fun J H1 => ∀ D, H1 D = none → ∃ W : Nat → Nat → Hp → Prop, (∃ m, W 0 m (upd H1 D (.lst []))) ∧ ∀ i m H, W i m H →
  (J.stop i H ∧ Q (.ref D) H) ∨ (J.go i H ∧ ∃ Nx : Hp → Prop, (∀ H', Nx H' → ∃ m', m' < m ∧ W (i + 1) m' H') ∧ ∀ x H', J.yld i H x H' → g x (wipe σ vs) H' fun σ2 H2 => wipe σ2 vs = wipe σ vs ∧ tt σ2 H2 fun b H3 =>
    if b = true then te σ2 H3 fun y H4 => ∃ acc, H4 D = some (.lst acc) ∧ acc.length < sizeLine ∧ Nx (upd H4 D (.lst (acc ++ [y]))) else Nx H3)) : tLc wi g tt te vs σ H Q := h
theorem r_iE {P : It → Hp → Prop} {a : Addr} {xs : List V} (h : SqL K H a xs) (q : P (Ite K a) H) : ∃ b ys, [V.ref a] = [.ref b] ∧ SqL K H b ys ∧ P (Ite K b) H := ⟨a, xs, rfl, h, q⟩
theorem r_iEn {P : It → Hp → Prop} (h : tA σ H fun vs H1 => ∃ b ys, vs = [.ref b] ∧ SqL K H1 b ys ∧ P (Ite K b) H1) : iEnum K tA σ H P := h
theorem r_iL {P : It → Hp → Prop} (h : te σ H fun x H1 => ∃ a, x = .ref a ∧ (∃ xs, SqL K H1 a xs) ∧ P (Itl K a) H1) : iList K te σ H P := h
theorem r_iT {P : It → Hp → Prop} (h : te σ H fun x H1 => ∃ a, x = .ref a ∧ (∃ xs, SqT K H1 a xs) ∧ P (Itt K a) H1) : iTup K te σ H P := h
theorem r_yes (q : R true H) : tYes σ H R := q
theorem r_abs {a : Int} {P : Int → Prop} (q : P (if a < 0 then -a else a)) : ∃ i, [V.int a] = [.int i] ∧ P (if i < 0 then -i else i) := ⟨a, rfl, q⟩
theorem r_ift {A B : Prop} (h : A) : if true = true then A else B := by rw [if_pos rfl]; exact h
theorem r_iff {A B : Prop} (h : B) : if false = true then A else B := by rw [if_neg Bool.false_ne_true]; exact h
end
end Jv
namespace Jv
open PySem PySem.Spec PyProof.Rows L2
section
variable {K : PySem.W.Frag} {H H' : Hp} {a p l : Addr} {xs : List V} {o u : HO}
theorem sqL_new (h : SqL K H a xs) (n : H p = none) : SqL K (upd H p u) a xs := (same_new n).seq h
theorem sqT_new (h : SqT K H a xs) (n : H p = none) : SqT K (upd H p u) a xs := Jv.Same.sqT (same_new n) h
theorem sqL_at (h : H a = some (.lst xs)) : SqL K H a xs := .inl (.inl h)
theorem sqT_at (h : H a = some (.tup xs)) : SqT K H a xs := .inl (.inl h)
theorem map_at {f : Int → V} {ns : List Int} {i : Nat} {x : V} (h : (ns.map f)[i]? = some x) : ∃ z, ns[i]? = some z ∧ x = f z := by
  rw [List.getElem?_map] at h
  cases e : ns[i]? with
  | none => rw [e] at h; cases h
  | some z => rw [e] at h; exact ⟨z, rfl, (Option.some.inj h).symm⟩
end
end Jv
namespace Jv
open PySem PySem.Spec PyProof.Rows L2
theorem r_wipe {σ1 σ2 : L2.St} {vs : List Nat} {P : Prop} (e : wipe σ1 vs = wipe σ2 vs) (q : P) : wipe σ1 vs = wipe σ2 vs ∧ P := ⟨e, q⟩
end Jv
namespace Jv
open PySem PySem.Spec PyProof.Rows L2
section
variable {K : PySem.W.Frag} {H : Hp}
def rLenK (K : PySem.W.Frag) : List V → Hp → VK → Prop := fun xs H Q => ∃ x n, xs = [x] ∧ LenV K x H n ∧ Q (.int n) H
theorem cr_len {X : Cx} : CallR X (.builtin "len") (rLenK X.K) := call_len
def rAbs : List V → Hp → VK → Prop := fun xs H Q => ∃ i, xs = [.int i] ∧ Q (.int (if i < 0 then -i else i)) H
theorem cr_abs {X : Cx} : CallR X (.builtin "abs") rAbs := call_abs
def rMin2 : List V → Hp → VK → Prop := fun xs H Q => ∃ i j, xs = [.int i, .int j] ∧ Q (.int (if j < i then j else i)) H
def rMax2 : List V → Hp → VK → Prop := fun xs H Q => ∃ i j, xs = [.int i, .int j] ∧ Q (.int (if j > i then j else i)) H
def rInt : List V → Hp → VK → Prop := fun xs H Q => (∃ i, xs = [.int i] ∧ Q (.int i) H) ∨ ∃ k, xs = [.bl k] ∧ Q (.int (if k then 1 else 0)) H
theorem cr_int {X : Cx} : CallR X (.type "int") rInt := call_int1
def rListOf (K : PySem.W.Frag) : List V → Hp → VK → Prop := fun xs H Q => ∃ p ys, xs = [.ref p] ∧ (SqL K H p ys ∨ SqT K H p ys) ∧ ∀ l, H l = none → Q (.ref l) (upd H l (.lst ys))
def rTupOf (K : PySem.W.Frag) : List V → Hp → VK → Prop := fun xs H Q => ∃ p ys, xs = [.ref p] ∧ ((SqL K H p ys ∧ ∀ l, H l = none → Q (.ref l) (upd H l (.tup ys))) ∨ (SqT K H p ys ∧ Q (.ref p) H))
section
variable {Q : VK}
theorem r_len {p : Addr} {xs : List V} (h : SqL K H p xs ∨ SqT K H p xs) (q : Q (.int xs.length) H) : rLenK K [V.ref p] H Q := ⟨_, xs.length, rfl, by
  rcases h with h | h
  · exact .inl ⟨xs, h, rfl⟩
  · exact .inr ⟨xs, h, rfl⟩, q⟩
theorem r_absN {a : Int} (q : Q (.int (if a < 0 then -a else a)) H) : rAbs [.int a] H Q := ⟨a, rfl, q⟩
theorem r_min {a b : Int} (q : Q (.int (if b < a then b else a)) H) : rMin2 [.int a, .int b] H Q := ⟨a, b, rfl, q⟩
theorem r_max {a b : Int} (q : Q (.int (if b > a then b else a)) H) : rMax2 [.int a, .int b] H Q := ⟨a, b, rfl, q⟩
theorem r_intN {a : Int} (q : Q (.int a) H) : rInt [.int a] H Q := .inl ⟨a, rfl, q⟩
theorem r_listOf {p : Addr} {ys : List V} (h : SqL K H p ys ∨ SqT K H p ys) (q : ∀ l, H l = none → Q (.ref l) (upd H l (.lst ys))) : rListOf K [.ref p] H Q := ⟨p, ys, rfl, h, q⟩
theorem r_tupOfL {p : Addr} {ys : List V} (h : SqL K H p ys) (q : ∀ l, H l = none → Q (.ref l) (upd H l (.tup ys))) : rTupOf K [.ref p] H Q := ⟨p, ys, rfl, .inl ⟨h, q⟩⟩
theorem r_tupOfT {p : Addr} {ys : List V} (h : SqT K H p ys) (q : Q (.ref p) H) : rTupOf K [.ref p] H Q := ⟨p, ys, rfl, .inr ⟨h, q⟩⟩
end
theorem r_decI {A B : Prop} {a b : Int} (h1 : a = b → A) (h2 : a ≠ b → B) : if decide (V.int a = V.int b) = true then A else B := r_dec (fun h => h1 (V.int.inj h)) fun h => h2 fun e => h (by rw [e])
theorem r_ndecI {A B : Prop} {a b : Int} (h1 : a ≠ b → A) (h2 : a = b → B) : if (!decide (V.int a = V.int b)) = true then A else B := r_ndec (fun h => h1 fun e => h (by rw [e])) fun h => h2 (V.int.inj h)
theorem ixN_of {n j : Nat} (hj : j < n) : ixN n (j : Int) = some j := by
  unfold ixN
  rw [if_pos (by omega), if_pos (by omega)]
  simp
end
end Jv
namespace Jv
open PySem PySem.Spec PyProof.Rows L2
theorem at_i {xs : List V} {k : Int} {v : V} (h0 : 0 ≤ k) (h : xs[k.toNat]? = some v) : atI xs k = some v := by
  rw [show k = ((k.toNat : Nat) : Int) by omega]
  exact atI_nat h
theorem map_get {f : Int → V} {ns : List Int} {i : Nat} (h : i < ns.length) : (ns.map f)[i]? = some (f ns[i]) := by
  rw [List.getElem?_map, List.getElem?_eq_getElem h]; rfl
end Jv

/-! ### things of any sort -/
namespace Jv
open PySem PySem.Spec PyProof.Rows L2
/-- a thing that a law hands in: a scalar, or a list, a tuple, a dict that stands -/
def Th (H : Hp) : V → Prop
  | .non => True
  | .bl _ => True
  | .int _ => True
  | .str _ => True
  | .ref a => (∃ xs, H a = some (.lst xs)) ∨ (∃ xs, H a = some (.tup xs)) ∨ ∃ kvs, H a = some (.dK kvs)
  | _ => False
def isB : V → Bool
  | .bl _ => true
  | _ => false
def isI : V → Bool
  | .int _ => true
  | _ => false
/-- a list or a tuple of xs -/
def Sq (H : Hp) (x : V) (xs : List V) : Prop := ∃ a, x = .ref a ∧ (H a = some (.lst xs) ∨ H a = some (.tup xs))
def sqOf (H : Hp) : V → Option (List V)
  | .ref a => match H a with
    | some (.lst xs) => some xs
    | some (.tup xs) => some xs
    | _ => none
  | _ => none
theorem sq_some {H : Hp} {x : V} {xs : List V} (h : sqOf H x = some xs) : Sq H x xs := by
  unfold sqOf at h
  split at h
  · rename_i a
    split at h
    · rename_i ys e; cases h; exact ⟨a, rfl, .inl e⟩
    · rename_i ys e; cases h; exact ⟨a, rfl, .inr e⟩
    · cases h
  · cases h
theorem Sq.of {H : Hp} {x : V} {xs : List V} (h : Sq H x xs) : sqOf H x = some xs := by
  obtain ⟨a, rfl, h | h⟩ := h <;> simp [sqOf, h]
theorem Sq.same {H H' : Hp} {x : V} {xs : List V} (h : Sq H x xs) (s : Same H H') : Sq H' x xs := by
  obtain ⟨a, rfl, h | h⟩ := h
  · exact ⟨a, rfl, .inl (s _ _ h)⟩
  · exact ⟨a, rfl, .inr (s _ _ h)⟩
theorem Sq.th {H : Hp} {x : V} {xs : List V} (h : Sq H x xs) : Th H x := by
  obtain ⟨a, rfl, h | h⟩ := h
  · exact .inl ⟨_, h⟩
  · exact .inr (.inl ⟨_, h⟩)
theorem Th.same {H H' : Hp} {x : V} (h : Th H x) (s : Same H H') : Th H' x := by
  cases x with
  | ref a =>
    rcases h with ⟨xs, h⟩ | ⟨xs, h⟩ | ⟨xs, h⟩
    · exact .inl ⟨xs, s _ _ h⟩
    · exact .inr (.inl ⟨xs, s _ _ h⟩)
    · exact .inr (.inr ⟨xs, s _ _ h⟩)
  | _ => exact h
theorem sqOf_same {H H' : Hp} {x : V} (h : Th H x) (s : Same H H') : sqOf H' x = sqOf H x := by
  cases x with
  | ref a => rcases h with ⟨xs, h⟩ | ⟨xs, h⟩ | ⟨xs, h⟩ <;> simp [sqOf, h, s _ _ h]
  | _ => rfl
section
variable {K : PySem.W.Frag} {H : Hp} {x : V} {Q : VK}
theorem th_ty (h : Th H x) : ∃ t, TyX K H x (.type t) ∧ kitB t "bool" = some (isB x) ∧ kitB t "int" = some (isB x || isI x) ∧ kitB t "list" = some (t == "list") ∧ kitB t "tuple" = some (t == "tuple") ∧ ((t == "list") || (t == "tuple")) = (sqOf H x).isSome := by
  cases x with
  | non => exact ⟨_, .base .non, (by decide +kernel : kitB "NoneType" "bool" = some false), (by decide +kernel : kitB "NoneType" "int" = some false), by decide +kernel, by decide +kernel, (by decide +kernel : (("NoneType" == "list") || ("NoneType" == "tuple")) = false)⟩
  | bl b => exact ⟨_, .base (.bl b), (by decide +kernel : kitB "bool" "bool" = some true), (by decide +kernel : kitB "bool" "int" = some true), by decide +kernel, by decide +kernel, (by decide +kernel : (("bool" == "list") || ("bool" == "tuple")) = false)⟩
  | int i => exact ⟨_, .base (.int i), (by decide +kernel : kitB "int" "bool" = some false), (by decide +kernel : kitB "int" "int" = some true), by decide +kernel, by decide +kernel, (by decide +kernel : (("int" == "list") || ("int" == "tuple")) = false)⟩
  | str i => exact ⟨_, .base (.str i), (by decide +kernel : kitB "str" "bool" = some false), (by decide +kernel : kitB "str" "int" = some false), by decide +kernel, by decide +kernel, (by decide +kernel : (("str" == "list") || ("str" == "tuple")) = false)⟩
  | ref a =>
    rcases h with ⟨xs, h⟩ | ⟨xs, h⟩ | ⟨xs, h⟩
    · exact ⟨_, .base (.lst h), (by decide +kernel : kitB "list" "bool" = some false), (by decide +kernel : kitB "list" "int" = some false), by decide +kernel, by decide +kernel, by simp [sqOf, h]⟩
    · exact ⟨_, .base (.tup h), (by decide +kernel : kitB "tuple" "bool" = some false), (by decide +kernel : kitB "tuple" "int" = some false), by decide +kernel, by decide +kernel, by simp [sqOf, h]⟩
    · exact ⟨_, .base (.dK h), (by decide +kernel : kitB "dict" "bool" = some false), (by decide +kernel : kitB "dict" "int" = some false), by decide +kernel, by decide +kernel, by simp [sqOf, h]⟩
  | byt _ => exact h.elim
  | flt _ => exact h.elim
  | ty _ => exact h.elim
theorem r_isB (h : Th H x) (q : Q (.bl (isB x)) H) : rIsi K [x, .ty "bool"] H Q := by
  obtain ⟨t, h1, h2, _⟩ := th_ty (K := K) h
  exact ⟨x, _, _, _, _, rfl, .ty _, h1, kit_ty h2, q⟩
theorem r_isI (h : Th H x) (q : Q (.bl (isB x || isI x)) H) : rIsi K [x, .ty "int"] H Q := by
  obtain ⟨t, h1, _, h2, _⟩ := th_ty (K := K) h
  exact ⟨x, _, _, _, _, rfl, .ty _, h1, kit_ty h2, q⟩
theorem r_isS {p : Addr} (hp : H p = some (.tup [.ty "list", .ty "tuple"])) (h : Th H x) (q : Q (.bl (sqOf H x).isSome) H) : rIsiT K [x, .ref p] H Q := by
  obtain ⟨t, h1, _, _, h2, h3, h4⟩ := th_ty (K := K) h
  refine ⟨x, p, _, _, _, (sqOf H x).isSome, rfl, hp, .cons (.ty _) (.cons (.ty _) .nil), h1, ?_, q⟩
  refine kitAny_cons (kit_ty h2) (fun e => ?_) fun e => by rw [← h4, e]; rfl
  refine kitAny_cons (kit_ty h3) (fun e2 => ?_) fun e2 => by rw [← h4, e2, Bool.or_true]
  rw [kitAny_nil, ← h4, e, e2]; rfl
theorem r_rfl {a : V} {P : Prop} (q : P) : a = a ∧ P := ⟨rfl, q⟩
end
/-- is_whole's answer -/
def loOk : V → Int → Bool
  | .int l, i => decide (l ≤ i)
  | _, _ => true
def hiOk : V → Int → Bool
  | .int l, i => decide (i ≤ l)
  | _, _ => true
def wholeV : V → V → V → Bool
  | .int i, lo, hi => loOk lo i && hiOk hi i
  | _, _, _ => false
def Bd (x : V) : Prop := x = .non ∨ ∃ i, x = .int i
theorem wholeV_int {x : V} {l h : Int} : wholeV x (.int l) (.int h) = true → ∃ i, x = .int i ∧ l ≤ i ∧ i ≤ h := by
  intro q
  cases x with
  | int i => simp [wholeV, loOk, hiOk] at q; exact ⟨i, rfl, q⟩
  | _ => cases q
end Jv
namespace Jv
open PySem PySem.Spec PyProof.Rows L2
theorem wholeV_lo0 {i a : Int} {hi : V} (h : i < a) : wholeV (.int i) (.int a) hi = false := by
  show (decide (a ≤ i) && hiOk hi i) = false
  rw [decide_eq_false (by omega), Bool.false_and]
theorem wholeV_lo1 {i a : Int} {hi : V} (h : ¬ i < a) : wholeV (.int i) (.int a) hi = hiOk hi i := by
  show (decide (a ≤ i) && hiOk hi i) = _
  rw [decide_eq_true (by omega), Bool.true_and]
theorem r_dec1 {A B p : Prop} {_ : Decidable p} (h : p) (q : A) : if decide p = true then A else B := r_true (decide_eq_true h) q
theorem r_dec0 {A B p : Prop} {_ : Decidable p} (h : ¬ p) (q : B) : if decide p = true then A else B := r_false (decide_eq_false h) q
end Jv

/-! ### walks over a list or a tuple; comprehensions whose elements are told by a function -/
namespace Jv
open PySem PySem.Spec PyProof.Rows L2
theorem piOr {X : Cx} {tg it : Expr} {w1 w2 : TI} (h : PI X tg it w1) (h' : PI X tg it w2) : PI X tg it (fun σ H R => w1 σ H R ∨ w2 σ H R) := ⟨fun pins s σ H R I q => q.elim (h.run pins s σ H R I) (h'.run pins s σ H R I)⟩
section
variable {K : PySem.W.Frag} {σ : L2.St} {H : Hp} {te : TE} {Q : VK} {xs : List V} {j i : Nat} {x : V}
theorem wipe1 {v : Option V} : wipe ((σ.set j none).set j v) [j] = wipe σ [j] := by
  show ((σ.set j none).set j v).set j none = σ.set j none
  rw [List.set_set, List.set_set]
theorem take_more {α : Type} {l : List α} {i : Nat} {x : α} (h : l[i]? = some x) : l.take (i + 1) = l.take i ++ [x] := by
  rw [List.take_add_one, h]; rfl
theorem lcF {J : It} {G : Hp → Prop} (w : Walk J xs.length G (YAt xs)) (hG : ∀ H', Same H H' → G H') (f : V → V) (few : xs.length ≤ 1000)
    (hs : ∀ v H1, v ∈ xs → Same H H1 → ∀ P : VK, (∀ H2, Same H1 H2 → P (f v) H2) → te ((σ.set j none).set j (some v)) H1 P)
    (hd : ∀ D H1, Same H H1 → H D = none → H1 D = some (.lst (xs.map f)) → Q (.ref D) H1) : ∀ D, H D = none → ∃ W : Nat → Nat → Hp → Prop, (∃ m, W 0 m (upd H D (.lst []))) ∧ ∀ i m H, W i m H →
      (J.stop i H ∧ Q (.ref D) H) ∨ (J.go i H ∧ ∃ Nx : Hp → Prop, (∀ H', Nx H' → ∃ m', m' < m ∧ W (i + 1) m' H') ∧ ∀ x H', J.yld i H x H' → gName j x (wipe σ [j]) H' fun σ2 H2 => wipe σ2 [j] = wipe σ [j] ∧ tYes σ2 H2 fun b H3 =>
        if b = true then te σ2 H3 fun y H4 => ∃ acc, H4 D = some (.lst acc) ∧ acc.length < sizeLine ∧ Nx (upd H4 D (.lst (acc ++ [y]))) else Nx H3) := by
  intro D hD
  refine lc_it w (fun i H1 => Same H H1 ∧ H1 D = some (.lst ((xs.take i).map f))) ⟨same_new hD, upd_same⟩ (fun i H1 _ h => hG H1 h.1) ?_ ?_
  · rintro i x H1 H2 hi ⟨s1, e1⟩ ⟨rfl, hx⟩
    refine ⟨wipe1, ?_⟩
    refine r_yes ?_
    refine r_true (c := true) rfl ?_
    refine hs x _ (List.mem_of_getElem? hx) s1 _ fun H3 s3 => ⟨_, s3 _ _ e1, ?_, ?_, ?_⟩
    · rw [List.length_map, List.length_take]; exact small_lt (by omega)
    · intro b o e; exact kpO (s3 _ _ (s1 b o e)) (ne_of_none e hD)
    · rw [upd_same, take_more hx, List.map_append]; rfl
  · rintro H1 ⟨s1, e1⟩
    rw [List.take_length] at e1
    exact hd D H1 s1 hD e1
/-- over a name that holds a list | a tuple | either -/
theorem lcL {a : Addr} (hv : σ[i]? = some (some (.ref a))) (hx : SqL K H a xs) (f : V → V) (few : xs.length ≤ 1000)
    (hs : ∀ v H1, v ∈ xs → Same H H1 → ∀ P : VK, (∀ H2, Same H1 H2 → P (f v) H2) → te ((σ.set j none).set j (some v)) H1 P)
    (hd : ∀ D H1, Same H H1 → H D = none → H1 D = some (.lst (xs.map f)) → Q (.ref D) H1) : tLc (iList K (tVar i)) (gName j) tYes te [j] σ H Q :=
  ⟨_, hv, a, rfl, ⟨xs, hx⟩, lcF walk_list (fun H' s => s.seq hx) f few hs hd⟩
theorem lcT {a : Addr} (hv : σ[i]? = some (some (.ref a))) (hx : SqT K H a xs) (f : V → V) (few : xs.length ≤ 1000)
    (hs : ∀ v H1, v ∈ xs → Same H H1 → ∀ P : VK, (∀ H2, Same H1 H2 → P (f v) H2) → te ((σ.set j none).set j (some v)) H1 P)
    (hd : ∀ D H1, Same H H1 → H D = none → H1 D = some (.lst (xs.map f)) → Q (.ref D) H1) : tLc (iTup K (tVar i)) (gName j) tYes te [j] σ H Q :=
  ⟨_, hv, a, rfl, ⟨xs, hx⟩, lcF walk_tup (fun H' s => Jv.Same.sqT s hx) f few hs hd⟩
theorem lcS (hv : σ[i]? = some (some x)) (hx : Sq H x xs) (f : V → V) (few : xs.length ≤ 1000)
    (hs : ∀ v H1, v ∈ xs → Same H H1 → ∀ P : VK, (∀ H2, Same H1 H2 → P (f v) H2) → te ((σ.set j none).set j (some v)) H1 P)
    (hd : ∀ D H1, Same H H1 → H D = none → H1 D = some (.lst (xs.map f)) → Q (.ref D) H1) : tLc (fun σ H R => iList K (tVar i) σ H R ∨ iTup K (tVar i) σ H R) (gName j) tYes te [j] σ H Q := by
  obtain ⟨a, rfl, h | h⟩ := hx
  · exact .inl (lcL hv (sqL_at h) f few hs hd)
  · exact .inr (lcT hv (sqT_at h) f few hs hd)
theorem r_all {D : Addr} {f : V → Bool} (h : H D = some (.lst (xs.map fun v => V.bl (f v)))) (q : Q (.bl (xs.all f)) H) : rAll K [.ref D] H Q := by
  refine ⟨D, xs.map f, rfl, sqL_at (by rw [h, List.map_map]; rfl), ?_⟩
  rw [List.all_map]; exact q
theorem Sq.len (h : Sq H x xs) (q : Q (.int xs.length) H) : rLenK K [x] H Q := by
  obtain ⟨a, rfl, h | h⟩ := h
  · exact r_len (.inl (sqL_at h)) q
  · exact r_len (.inr (sqT_at h)) q
theorem Sq.ix (h : Sq H x xs) {k : Int} {v : V} (e : atI xs k = some v) (q : Q v H) : rIx K x (.int k) H Q := by
  obtain ⟨a, rfl, h | h⟩ := h
  · exact .inl (r_ixL (sqL_at h) e q)
  · exact .inr (.inl (r_ixT (sqT_at h) e q))
end
end Jv

/-! ### sorted(t) of a tuple of ints -/
namespace JvS
open PySem PySem.Spec PyProof.Rows L2 SrtO
section
variable {P : Program} {w : World} {A : Around} {E : Value → Shared → Prop} {s : Shared}
/-- the list that collect makes -/
abbrev colH (h : Heap) (vs : List Value) : Heap := (h.push (seqObj "list" #[] 0)).update h.objs.size (Obj.mapSeq (· ++ vs.toArray))
theorem collect_tup {l : Addr} {vs : List Value} {Q : List Value → Shared → Prop} (hl : s.heap.IsTuple l vs.toArray) (h : Q vs { s with heap := colH s.heap vs }) (hsz : vs.length ≤ sizeLine) :
    wpAny (model P w) A (collect (.ref l)) Q E s := by
  obtain ⟨o, ho, hc, n, hd⟩ := id hl
  have ho2 : (s.heap.push (seqObj "list" #[] 0)).get? l = some o := Heap.get?_push_of_some _ ho
  have new : (s.heap.push (seqObj "list" #[] 0)).get? s.heap.objs.size = some (seqObj "list" #[] 0) := Heap.get?_push_size _ rfl
  unfold collect
  refine wpAny_bind (wpAny_runValue (codeAny_builtin entry_proto_collect' (show wpAny _ _ (do again (.builtin "list.__iadd__" ⟨[← newList [], .ref l], []⟩)) _ _ s from
    wpAny_bind (wpAny_newList (wpAny_pure ⟨Code.quiet_builtin _ (by decide +kernel), codeAny_builtin entry_list_iadd' ?_⟩)))))
  show wpAny _ _ (Builtin.List.listExtendWith (.ref s.heap.objs.size) (.ref l) (.ref s.heap.objs.size)) _ _ { s with heap := s.heap.push (seqObj "list" #[] 0) }
  unfold Builtin.List.listExtendWith
  refine wpAny_bind (wpAny_typeOf (T := "tuple") ⟨o, ho2, hc⟩ ?_)
  rw [if_pos (by have e : (Value.type "tuple" == Value.type "tuple") = true := rfl
                 rw [e]; simp)]
  refine wpAny_bind (listItems_at ho2 hd (wpAny_bind (listItems_at (xs := #[]) (n := 0) new rfl ?_)))
  rw [if_neg (by simp)]
  refine wpAny_bind (listUpdate_at (xs := #[]) (n := 0) new rfl (wpAny_pure ?_) (Nat.zero_le _) (by show (#[] ++ vs.toArray).size ≤ sizeLine + 1; simp; omega))
  show wpAny (model P w) A (do
      let o ← load s.heap.objs.size
      match o.data with
      | .seq ys _ => pure ys.toList
      | _ => unsupported "internal:collect") Q E { s with heap := colH s.heap vs }
  refine wpAny_bind (wpAny_load (get?_update_seq new _) (show wpAny _ _ (pure ((#[] : Array Value) ++ vs.toArray).toList) Q E _ from ?_))
  rw [show ((#[] : Array Value) ++ vs.toArray).toList = vs by simp]
  exact wpAny_pure h
theorem sorted_tup {l : Addr} {vs : List Value} {ltv : Value → Value → Bool} {Q : Value → Shared → Prop} (O : Swo ltv) (hl : s.heap.IsTuple l vs.toArray) (hz : vs.length ≤ sizeLine)
    (hS : 2 ≤ vs.length → ∀ (h₁ : Heap) (a : Addr), h₁.get? a = some (seqObj "list" vs.toArray 0) → (∀ b o, s.heap.get? b = some o → b ≠ a ∧ h₁.get? b = some o) → SortableO P w A.in1.in1 { s with heap := h₁ } a vs ltv)
    (h : ∀ out : List Value, Srtd ltv out → Stb ltv out vs → Q (.ref (s.heap.objs.size + 1)) { s with heap := sortedAll s.heap vs out.toArray }) :
    wpAny (model P w) A (call (.builtin "sorted") [.ref l]) Q E s := by
  refine Calls.call_function_entry kind_sorted plain_sorted entry_sorted (args_sorted1 _) ?_
  unfold Builtin.«sorted»
  refine wpAny_bind (m := checkCount "sorted" 1 1 _) (wpAny_pure (wpAny_bind (collect_tup hl (wpAny_bind (wpAny_newList ?_ hz)) hz)))
  have size1 : (colH s.heap vs).objs.size = s.heap.objs.size + 1 := by rw [Heap.size_update, size_push']
  have at2 : ((colH s.heap vs).push (seqObj "list" vs.toArray 0)).get? (s.heap.objs.size + 1) = some (seqObj "list" vs.toArray 0) := by
    rw [← size1]; exact Heap.get?_push_size _ rfl
  have old : ∀ b o, s.heap.get? b = some o → b ≠ s.heap.objs.size + 1 ∧ ((colH s.heap vs).push (seqObj "list" vs.toArray 0)).get? b = some o := fun b o q => by
    have lt := Heap.lt_size q
    refine ⟨Nat.ne_of_lt (Nat.lt_succ_of_lt lt), Heap.get?_push_of_some _ ?_⟩
    rw [Heap.get?_update_ne _ _ _ _ (Nat.ne_of_lt lt)]
    exact Heap.get?_push_of_some _ q
  show wpAny _ _ _ _ _ { s with heap := (colH s.heap vs).push (seqObj "list" vs.toArray 0) }
  rw [size1]
  refine wpAny_bind (wpAny_holding (wpAny_call_entry slot_list_sort ⟨_, at2, rfl⟩ entry_list_sort (list_sort_ord O at2 hz (fun h2 => hS h2 _ _ at2 old) fun out a b => ⟨_, rfl, wpAny_pure ⟨_, rfl, h out a b⟩⟩) (args_list_sort _)))
end
end JvS
namespace Jv
open PySem PySem.Spec PyProof.Rows L2
section
variable {X : Cx}
/-- sorted(x), x a list or a tuple of ints -/
def rSortIT (K : PySem.W.Frag) : List V → Hp → VK → Prop := fun vs H Q => ∃ (a : Addr) (ns : List Int), vs = [V.ref a] ∧ (SqL K H a (ns.map V.int) ∨ SqT K H a (ns.map V.int)) ∧
  ∀ (ns' : List Int) (p : Addr), ns'.Perm ns → ns'.Pairwise (· ≤ ·) → H p = none → Q (.ref p) (upd H p (.lst (ns'.map V.int)))
theorem cr_sortIT : CallR X (.builtin "sorted") (rSortIT X.K) := by
  intro pins s σ H vs us Q I r h
  obtain ⟨a, ns, rfl, hs | hs, q⟩ := h
  · exact cr_sortedI pins s σ H _ us Q I r ⟨a, ns, rfl, hs, q⟩
  · obtain ⟨its, rv, ht, hz⟩ := I.tuple hs
    rw [Vals.ref1 r]
    have hi := rv.ints
    rw [List.length_map] at hz
    have hz2 : its.length ≤ sizeLine := by rw [← rv.length, List.length_map]; exact hz
    refine JvS.sorted_tup SrtO.swo_int (show s.heap.IsTuple a its.toArray from ht) hz2 (fun h2 _ _ _ _ => SrtO.ints_sortable hi h2) fun out h1 h2 => ?_
    obtain ⟨k1, k2, k3⟩ := SrtO.ints_out hi h1 h2
    obtain ⟨ep, he⟩ := PyProof.Rows.sortedAll_at s.heap its out.toArray
    refine ⟨.ref _, upd H (s.heap.objs.size + 1) (.lst ((out.map SrtO.iv).map V.int)), I.laid (t' := s.toks) (fun _ _ => PyProof.Rows.sortedAll_old) (Nat.le_succ _) ⟨?_, out, ep, vals_of_ints k1, he⟩, rfl, q _ _ k2 k3 (I.hok.fresh (Nat.le_succ _))⟩
    rw [List.length_map, k2.length_eq]; exact hz
end
/-! ### data of ints -/
theorem canAll_ints : ∀ ns : List Int, PyData.canLayAll0 (ns.map PyData.int) = true
  | [] => by simp [PyData.canLayAll0]
  | a :: r => by simp [PyData.canLayAll0, PyData.canLay0, canAll_ints r]
theorem depAll_ints : ∀ ns : List Int, PyData.depthAll (ns.map PyData.int) = 0
  | [] => by simp [PyData.depthAll]
  | a :: r => by simp [PyData.depthAll, PyData.depth, depAll_ints r]
theorem shapedL (ns : List Int) : SeqAt.shaped (.list (ns.map .int)) = true := by simp [SeqAt.shaped, PyData.canLay0, PyData.depth, canAll_ints, depAll_ints]
theorem shapedT (ns : List Int) : SeqAt.shaped (.tuple (ns.map .int)) = true := by simp [SeqAt.shaped, PyData.canLay0, PyData.depth, canAll_ints, depAll_ints]
theorem eqvAll_ints : ∀ a b : List Int, PyData.eqvAll (a.map .int) (b.map .int) = decide (a = b)
  | [], [] => by simp [PyData.eqvAll]
  | [], _ :: _ => by simp [PyData.eqvAll]
  | _ :: _, [] => by simp [PyData.eqvAll]
  | x :: a, y :: b => by
    simp only [List.map_cons, PyData.eqvAll, PyData.eqv, eqvAll_ints a b]
    by_cases h : x = y <;> by_cases g : a = b <;> simp [h, g]
theorem eqvL (a b : List Int) : PyData.eqv (.list (a.map .int)) (.list (b.map .int)) = decide (a = b) := by rw [PyData.eqv, eqvAll_ints]
theorem eqvT (a b : List Int) : PyData.eqv (.tuple (a.map .int)) (.tuple (b.map .int)) = decide (a = b) := by rw [PyData.eqv, eqvAll_ints]
section
variable {K : PySem.W.Frag} {H : Hp}
theorem dpAll_ints : ∀ ns : List Int, DpAll K H (ns.map V.int) (ns.map PyData.int)
  | [] => .nil
  | a :: r => .cons (.int a) (dpAll_ints r)
theorem dpL {a : Addr} {ns : List Int} (h : SqL K H a (ns.map V.int)) : Dp K H (.ref a) (.list (ns.map .int)) := .lst h (dpAll_ints ns)
theorem dpT {a : Addr} {ns : List Int} (h : SqT K H a (ns.map V.int)) : Dp K H (.ref a) (.tuple (ns.map .int)) := .tup h (dpAll_ints ns)
end
end Jv

/-! ### kinds, lots, orders -/
namespace Jv
open PySem PySem.Spec PyProof.Rows L2
def intsV : List V → Option (List Int)
  | [] => some []
  | .int i :: r => (intsV r).map (i :: ·)
  | _ :: _ => none
theorem iv_map : ∀ ns : List Int, intsV (ns.map V.int) = some ns
  | [] => rfl
  | a :: r => by simp [intsV, iv_map r]
theorem iv_of : ∀ {xs : List V} {ns : List Int}, intsV xs = some ns → xs = ns.map V.int
  | [], ns, h => by cases h; rfl
  | .int i :: r, ns, h => by
    cases e : intsV r with
    | none => simp [intsV, e] at h
    | some m => simp [intsV, e] at h; subst h; rw [iv_of e]; rfl
  | .non :: _, _, h => by cases h
  | .bl _ :: _, _, h => by cases h
  | .str _ :: _, _, h => by cases h
  | .byt _ :: _, _, h => by cases h
  | .flt _ :: _, _, h => by cases h
  | .ref _ :: _, _, h => by cases h
  | .ty _ :: _, _, h => by cases h
/-- what a sequence's items must be for the program to look at them -/
def ThS (H : Hp) (x : V) : Prop := Th H x ∧ ∀ xs, Sq H x xs → xs.length ≤ 60 ∧ ∀ v ∈ xs, Th H v
theorem ThS.same {H H' : Hp} {x : V} (h : ThS H x) (s : Same H H') : ThS H' x := ⟨h.1.same s, fun xs q => by
  have e := q.of
  rw [sqOf_same h.1 s] at e
  obtain ⟨a, b⟩ := h.2 xs (sq_some e)
  exact ⟨a, fun v m => (b v m).same s⟩⟩
def kindsB (H : Hp) (x : V) (k : Int) : Bool := match sqOf H x with
  | some xs => xs.all fun v => wholeV v (.int 0) (.int (k - 1))
  | none => false
def inK (k : Int) (ns : List Int) : Prop := ∀ n ∈ ns, 0 ≤ n ∧ n ≤ k - 1
theorem whole_all {k : Int} : ∀ {xs : List V}, (xs.all fun v => wholeV v (.int 0) (.int (k - 1))) = true → ∃ ns, xs = ns.map V.int ∧ inK k ns
  | [], _ => ⟨[], rfl, fun _ h => by cases h⟩
  | x :: r, h => by
    rw [List.all_cons, Bool.and_eq_true] at h
    obtain ⟨i, rfl, h1, h2⟩ := wholeV_int h.1
    obtain ⟨ns, rfl, h3⟩ := whole_all h.2
    refine ⟨i :: ns, rfl, fun n hn => ?_⟩
    rcases List.mem_cons.mp hn with rfl | hn
    · exact ⟨h1, h2⟩
    · exact h3 n hn
theorem all_whole {k : Int} {ns : List Int} (h : inK k ns) : ((ns.map V.int).all fun v => wholeV v (.int 0) (.int (k - 1))) = true := by
  rw [List.all_map, List.all_eq_true]
  intro n hn
  obtain ⟨a, b⟩ := h n hn
  show (decide (0 ≤ n) && decide (n ≤ k - 1)) = true
  rw [decide_eq_true a, decide_eq_true b]; rfl
instance {k : Int} {ns : List Int} : Decidable (inK k ns) := inferInstanceAs (Decidable (∀ n ∈ ns, _))
theorem whole_all_iff {k : Int} {ns : List Int} : ((ns.map V.int).all fun v => wholeV v (.int 0) (.int (k - 1))) = decide (inK k ns) := by
  by_cases h : inK k ns
  · rw [all_whole h, decide_eq_true h]
  · rw [decide_eq_false h]
    cases e : (ns.map V.int).all fun v => wholeV v (.int 0) (.int (k - 1)) with
    | false => rfl
    | true =>
      obtain ⟨ms, e2, h2⟩ := whole_all e
      have e3 : ns = ms := by have q := iv_map ns; rw [e2, iv_map] at q; cases q; rfl
      exact absurd (e3 ▸ h2) h
theorem sorted_ext : ∀ {a b : List Int}, a.Pairwise (· < ·) → b.Pairwise (· < ·) → (∀ n, n ∈ a ↔ n ∈ b) → a = b
  | [], [], _, _, _ => rfl
  | [], y :: _, _, _, h => absurd ((h y).mpr List.mem_cons_self) (by simp)
  | x :: _, [], _, _, h => absurd ((h x).mp List.mem_cons_self) (by simp)
  | x :: a, y :: b, ha, hb, h => by
    have ha' := List.pairwise_cons.mp ha
    have hb' := List.pairwise_cons.mp hb
    have e : x = y := by
      rcases List.mem_cons.mp ((h x).mp List.mem_cons_self) with e | m1
      · exact e
      · rcases List.mem_cons.mp ((h y).mpr List.mem_cons_self) with e | m2
        · exact e.symm
        · have q1 := hb'.1 x m1
          have q2 := ha'.1 y m2
          omega
    subst e
    congr 1
    refine sorted_ext ha'.2 hb'.2 fun n => ⟨fun m => ?_, fun m => ?_⟩
    · rcases List.mem_cons.mp ((h n).mp (List.mem_cons_of_mem _ m)) with e | q
      · subst e; exact absurd (ha'.1 n m) (by omega)
      · exact q
    · rcases List.mem_cons.mp ((h n).mpr (List.mem_cons_of_mem _ m)) with e | q
      · subst e; exact absurd (hb'.1 n m) (by omega)
      · exact q
def lotP (k : Int) (ns : List Int) : Prop := inK k ns ∧ 0 < ns.length ∧ ns.Pairwise (· < ·)
instance {k : Int} {ns : List Int} : Decidable (lotP k ns) := inferInstanceAs (Decidable (_ ∧ _))
def lotV (H : Hp) (x : V) (k : Int) : Bool := match sqOf H x with
  | some xs => match intsV xs with
    | some ns => decide (lotP k ns)
    | none => false
  | none => false
theorem set_eq {ns ms : List Int} (h1 : ms.Pairwise (· < ·)) (h2 : ∀ k : Int, k ∈ ms ↔ decide (k ∈ ns) = true) : (ns = ms) ↔ ns.Pairwise (· < ·) :=
  ⟨fun e => e ▸ h1, fun h => sorted_ext h h1 fun n => by rw [h2 n, decide_eq_true_iff]⟩
def orderP (k : Int) (ns : List Int) : Prop := inK k ns ∧ ns.Perm ((List.range k.toNat).map fun (i : Nat) => (i : Int))
instance {k : Int} {ns : List Int} : Decidable (orderP k ns) := inferInstanceAs (Decidable (_ ∧ _))
theorem range_sorted (n : Nat) : ((List.range n).map fun (i : Nat) => (i : Int)).Pairwise (· ≤ ·) := by
  rw [List.pairwise_map]
  exact List.pairwise_lt_range.imp fun h => by omega
theorem sorted_perm {a b : List Int} (ha : a.Pairwise (· ≤ ·)) (hb : b.Pairwise (· ≤ ·)) (h : a.Perm b) : a = b :=
  List.Perm.eq_of_pairwise (fun x y _ _ h1 h2 => by omega) ha hb h
def orderV (H : Hp) (x : V) (k : Int) : Bool := match sqOf H x with
  | some xs => match intsV xs with
    | some ns => decide (orderP k ns)
    | none => false
  | none => false
end Jv
namespace Jv
open PySem PySem.Spec PyProof.Rows L2
section
variable {H : Hp} {x : V} {k : Int} {ns : List Int}
theorem lotV_of (e : sqOf H x = some (ns.map V.int)) : lotV H x k = decide (lotP k ns) := by
  unfold lotV; rw [e]; dsimp only; rw [iv_map]
theorem orderV_of (e : sqOf H x = some (ns.map V.int)) : orderV H x k = decide (orderP k ns) := by
  unfold orderV; rw [e]; dsimp only; rw [iv_map]
theorem kindsB_of (e : sqOf H x = some (ns.map V.int)) : kindsB H x k = decide (inK k ns) := by
  unfold kindsB; rw [e]; exact whole_all_iff
theorem kindsB_true (h : kindsB H x k = true) : ∃ ns, sqOf H x = some (ns.map V.int) ∧ inK k ns := by
  unfold kindsB at h
  cases e : sqOf H x with
  | none => rw [e] at h; cases h
  | some xs =>
    rw [e] at h
    obtain ⟨ns, rfl, q⟩ := whole_all h
    exact ⟨ns, rfl, q⟩
theorem lotV_false (h : kindsB H x k = false) : lotV H x k = false := by
  cases e : sqOf H x with
  | none => unfold lotV; rw [e]
  | some xs =>
    cases e2 : intsV xs with
    | none => unfold lotV; rw [e]; dsimp only; rw [e2]
    | some ns =>
      obtain rfl := iv_of e2
      rw [lotV_of e, decide_eq_false]
      rintro ⟨h1, _⟩
      rw [kindsB_of e, decide_eq_true h1] at h; cases h
theorem orderV_false (h : kindsB H x k = false) : orderV H x k = false := by
  cases e : sqOf H x with
  | none => unfold orderV; rw [e]
  | some xs =>
    cases e2 : intsV xs with
    | none => unfold orderV; rw [e]; dsimp only; rw [e2]
    | some ns =>
      obtain rfl := iv_of e2
      rw [orderV_of e, decide_eq_false]
      rintro ⟨h1, _⟩
      rw [kindsB_of e, decide_eq_true h1] at h; cases h
theorem lotV_true (h : lotV H x k = true) : ∃ ns, sqOf H x = some (ns.map V.int) ∧ lotP k ns := by
  cases e : sqOf H x with
  | none => unfold lotV at h; rw [e] at h; cases h
  | some xs =>
    cases e2 : intsV xs with
    | none => unfold lotV at h; rw [e] at h; dsimp only at h; rw [e2] at h; cases h
    | some ns =>
      obtain rfl := iv_of e2
      rw [lotV_of e] at h
      exact ⟨ns, rfl, of_decide_eq_true h⟩
theorem Sq.or {K : PySem.W.Frag} {a : Addr} {xs : List V} (h : H a = some (.lst xs) ∨ H a = some (.tup xs)) : SqL K H a xs ∨ SqT K H a xs := h.elim (fun h => .inl (sqL_at h)) fun h => .inr (sqT_at h)
end
end Jv
namespace Jv
open PySem PySem.Spec PyProof.Rows L2
theorem rgV0 {k : Int} : rgV 0 k = ((List.range k.toNat).map fun (i : Nat) => (i : Int)).map V.int := by
  unfold rgV
  rw [List.map_map, Int.sub_zero]
  refine List.map_congr_left fun i _ => ?_
  show V.int (0 + (i : Int)) = V.int i
  rw [Int.zero_add]
end Jv

/-! ### pairs of two ranges; data as lists of pairs -/
namespace Jv
open PySem PySem.Spec PyProof.Rows L2
/-- references to tuples of two ints that stand -/
def Tups (H : Hp) (refs : List V) (prs : List (Int × Int)) : Prop := Paired (fun v (pr : Int × Int) => ∃ t, v = V.ref t ∧ H t = some (.tup [.int pr.1, .int pr.2])) refs prs
theorem Paired.mono' {α β : Type} {F G : α → β → Prop} (h : ∀ a b, F a b → G a b) : ∀ {xs : List α} {ys : List β}, Paired F xs ys → Paired G xs ys
  | _, _, .nil => .nil
  | _, _, .cons r t => .cons (h _ _ r) (Paired.mono' h t)
theorem Paired.snoc {α β : Type} {F : α → β → Prop} {a : α} {b : β} (h : F a b) : ∀ {xs : List α} {ys : List β}, Paired F xs ys → Paired F (xs ++ [a]) (ys ++ [b])
  | _, _, .nil => .cons h .nil
  | _, _, .cons r t => .cons r (Paired.snoc h t)
theorem Tups.same {H H' : Hp} {refs : List V} {prs : List (Int × Int)} (h : Tups H refs prs) (s : Same H H') : Tups H' refs prs := Paired.mono' (fun _ _ ⟨t, e, q⟩ => ⟨t, e, s _ _ q⟩) h
theorem Tups.upd {H : Hp} {D : Addr} {o : HO} {refs : List V} {prs : List (Int × Int)} (h : Tups H refs prs) (n : ∀ xs, H D ≠ some (.tup xs)) : Tups (L2.upd H D o) refs prs :=
  Paired.mono' (fun _ _ ⟨t, e, q⟩ => ⟨t, e, by rw [upd_ne]; exact q; intro z; rw [z] at q; exact n _ q⟩) h
def pairsTo (q i j : Nat) : List (Int × Int) := ((List.range i).flatMap fun (e : Nat) => (List.range q).map fun (w : Nat) => ((e : Int), (w : Int))) ++ (List.range j).map fun (w : Nat) => ((i : Int), (w : Int))
def prs (p q : Nat) : List (Int × Int) := pairsTo q p 0
theorem pairsTo_next (q i : Nat) : pairsTo q i q = pairsTo q (i + 1) 0 := by
  unfold pairsTo
  rw [List.range_succ, List.flatMap_append]
  simp
theorem pairsTo_more (q i j : Nat) : pairsTo q i (j + 1) = pairsTo q i j ++ [((i : Int), (j : Int))] := by
  unfold pairsTo
  rw [List.range_succ (n := j), List.map_append, List.append_assoc]; rfl
theorem pairsTo_len (q i j : Nat) : (pairsTo q i j).length = i * q + j := by
  unfold pairsTo
  rw [List.length_append, List.length_map, List.length_range]
  congr 1
  induction i with
  | zero => simp
  | succ i ih => rw [List.range_succ, List.flatMap_append, List.length_append, ih]; simp [Nat.succ_mul]
section
variable {σ : L2.St} {H : Hp} {ta tb : TA} {te : TE} {Q : VK} {a b p q : Nat}
theorem lc2R (hp : p ≤ 20) (hq : q ≤ 20) (w1 : ∀ x, wipe ((wipe σ [a, b]).set a (some x)) [a, b] = wipe σ [a, b])
    (w2 : ∀ x y, wipe ((wipe ((wipe σ [a, b]).set a (some x)) [b]).set b (some y)) [b] = wipe ((wipe σ [a, b]).set a (some x)) [b])
    (hta : ∀ P : List V → Hp → Prop, P [.int p] H → ta σ H P)
    (htb : ∀ (i : Nat) H1, i < p → Same H H1 → ∀ P : List V → Hp → Prop, P [.int q] H1 → tb ((wipe σ [a, b]).set a (some (.int i))) H1 P)
    (hte : ∀ (i j : Nat) H1, i < p → j < q → Same H H1 → ∀ P : VK, (∀ t H2, Same H1 H2 → H1 t = none → H2 t = some (.tup [.int i, .int j]) → P (.ref t) H2) → te ((wipe ((wipe σ [a, b]).set a (some (.int i))) [b]).set b (some (.int j))) H1 P)
    (hd : ∀ D refs H1, Same H H1 → H D = none → H1 D = some (.lst refs) → Tups H1 refs (prs p q) → Q (.ref D) H1) :
    tLc2 (iRng1 ta) (gName a) tYes (iRng1 tb) (gName b) tYes te [a, b] [b] σ H Q := by
  refine hta _ ⟨p, rfl, by omega, by omega, fun D hD => ?_⟩
  have key : ∀ (i j : Nat) H1, (∃ refs, Same H H1 ∧ H1 D = some (.lst refs) ∧ Tups H1 refs (pairsTo q i j)) → ∃ refs, Same H H1 ∧ H1 D = some (.lst refs) ∧ Tups H1 refs (pairsTo q i j) := fun _ _ _ h => h
  refine ⟨fun i m H1 => m = p - i ∧ i ≤ p ∧ ∃ refs, Same H H1 ∧ H1 D = some (.lst refs) ∧ Tups H1 refs (pairsTo q i 0), ⟨p, by omega, by omega, [], same_new hD, upd_same, .nil⟩, ?_⟩
  rintro i m H1 ⟨rfl, hi, refs, s1, e1, t1⟩
  by_cases lt : i < p
  · refine .inr ⟨by show i < (p : Int).toNat; omega, fun H' => ∃ refs, Same H H' ∧ H' D = some (.lst refs) ∧ Tups H' refs (pairsTo q (i + 1) 0), fun H' h => ⟨p - (i + 1), by omega, rfl, lt, h⟩, ?_⟩
    rintro x H2 ⟨rfl, rfl⟩
    rw [Int.zero_add]
    refine ⟨w1 _, r_yes (r_true (c := true) rfl ?_)⟩
    refine htb i _ lt s1 _ ⟨q, rfl, by omega, by omega, ?_⟩
    refine ⟨fun j k H1 => k = q - j ∧ j ≤ q ∧ ∃ refs, Same H H1 ∧ H1 D = some (.lst refs) ∧ Tups H1 refs (pairsTo q i j), ⟨q, by omega, by omega, refs, s1, e1, t1⟩, ?_⟩
    rintro j k H3 ⟨rfl, hj, refs, s3, e3, t3⟩
    by_cases lt2 : j < q
    · refine .inr ⟨by show j < (q : Int).toNat; omega, fun H' => ∃ refs, Same H H' ∧ H' D = some (.lst refs) ∧ Tups H' refs (pairsTo q i (j + 1)), fun H' h => ⟨q - (j + 1), by omega, rfl, lt2, h⟩, ?_⟩
      rintro y H4 ⟨rfl, rfl⟩
      rw [Int.zero_add]
      refine ⟨w2 _ _, r_yes (r_true (c := true) rfl ?_)⟩
      refine hte i j _ lt lt2 s3 _ fun t H5 s5 ht h5 => ⟨refs, s5 _ _ e3, ?_, refs ++ [.ref t], ?_, upd_same, ?_⟩
      · have h1 := Paired.length t3
        have h2 := pairsTo_len q i j
        have h3 : i * q ≤ 20 * 20 := Nat.mul_le_mul (by omega) (by omega)
        exact small_lt (by omega)
      · intro c o hc
        exact kpO (s5 _ _ (s3 _ _ hc)) (ne_of_none hc hD)
      · rw [pairsTo_more]
        refine Tups.upd (Paired.snoc ⟨t, rfl, h5⟩ (t3.same s5)) fun xs z => ?_
        have := s5 _ _ e3
        rw [this] at z; cases z
    · have ej : j = q := by omega
      subst ej
      refine .inl ⟨by show (j : Int).toNat ≤ j; omega, refs, s3, e3, ?_⟩
      rw [← pairsTo_next]; exact t3
  · have ei : i = p := by omega
    subst ei
    exact .inl ⟨by show (i : Int).toNat ≤ i; omega, hd D refs _ s1 hD e1 t1⟩
end
end Jv
namespace Jv
open PySem PySem.Spec PyProof.Rows L2
theorem log_small {m : Int} (h0 : 0 < m) (h1 : m < 2 ^ 200) : m.natAbs.log2 < 9000 := Nat.lt_trans (PySem.Flt.log2_lt_of (n := m.natAbs) (k := 200) (by decide) (by omega)) (by decide)
theorem cdivS {i m : Int} (h0 : 0 < m) (h1 : m < 2 ^ 200) : CDivW i m := ⟨h0, log_small h0 h1⟩
end Jv
namespace Jv
open PySem PySem.Spec PyProof.Rows L2
section
variable {K : PySem.W.Frag} {σ : L2.St} {H : Hp} {Q : VK} {to : TE} {t : TA} {y : V}
theorem r_bm {T : String} {r : V → List V → Hp → VK → Prop} (h : to σ H fun x H1 => tyV K T x H1 ∧ t σ H1 fun xs H2 => r x xs H2 Q) : tBM K T r to t σ H Q := h
theorem r_tyL {p : Addr} {xs : List V} {P : Prop} (h : H p = some (.lst xs)) (q : P) : tyV K "list" (.ref p) H ∧ P := ⟨.inl ⟨rfl, xs, sqL_at h⟩, q⟩
theorem r_app {l : Addr} {xs : List V} (h : H l = some (.lst xs)) (hz : xs.length < 1000) (q : Q .non (upd H l (.lst (xs ++ [y])))) : rAppend (.ref l) [y] H Q := ⟨l, xs, y, rfl, rfl, h, small_lt hz, q⟩
theorem seqIx {k : Int} {n : Nat} (h0 : 0 ≤ k) (h1 : k.toNat < n) : seqIndex? k n = some k.toNat := by
  unfold seqIndex?
  simp; omega
theorem r_popAt {l : Addr} {xs : List V} {k : Int} (h : H l = some (.lst xs)) (h0 : 0 ≤ k) (h1 : k < 1000) (e : xs[k.toNat]? = some y) (q : Q y (upd H l (.lst (xs.eraseIdx k.toNat)))) : rPopAt (.ref l) [.int k] H Q :=
  ⟨l, xs, k, k.toNat, y, rfl, rfl, h, by omega, by omega, seqIx h0 (List.getElem?_eq_some_iff.mp e).1, e, q⟩
theorem erase_perm : ∀ {l : List Int} {k : Nat} {z : Int}, l[k]? = some z → (z :: l.eraseIdx k).Perm l
  | [], k, z, h => by simp at h
  | a :: r, 0, z, h => by
    have e : a = z := Option.some.inj h
    subst e; exact .refl _
  | a :: r, k + 1, z, h => (List.Perm.swap a z _).trans (List.Perm.cons a (erase_perm (l := r) (k := k) h))
theorem pop_perm {ns ms : List Int} {k : Nat} {z : Int} (e : ms[k]? = some z) : ((ns ++ [z]) ++ ms.eraseIdx k).Perm (ns ++ ms) := by
  rw [List.append_assoc]
  exact List.Perm.append_left ns (erase_perm e)
def rgI (n : Nat) : List Int := (List.range n).map fun (i : Nat) => (i : Int)
end
theorem rises_no {ns : List Int} {k b z : Int} {i : Nat} (hz : ns[i]? = some z) (hb : b = -1 ∨ b ∈ ns.take i) (h : ¬ (b < z ∧ z < k)) : ¬ lotP k ns := fun ⟨h1, _, h3⟩ => by
  obtain ⟨a0, a1⟩ := h1 z (List.mem_of_getElem? hz)
  refine h ⟨?_, by omega⟩
  rcases hb with rfl | hb
  · omega
  · obtain ⟨hi, rfl⟩ := List.getElem?_eq_some_iff.mp hz
    rw [← List.take_append_drop i ns, List.pairwise_append] at h3
    exact h3.2.2 b hb _ (by rw [List.mem_iff_getElem]; exact ⟨0, by rw [List.length_drop]; omega, by simp⟩)
end Jv
namespace Jv
open PySem PySem.Spec PyProof.Rows L2
theorem erase_map : ∀ (l : List Int) (j : Nat), (l.map V.int).eraseIdx j = (l.eraseIdx j).map V.int
  | [], _ => rfl
  | _ :: _, 0 => rfl
  | a :: r, j + 1 => congrArg (V.int a :: ·) (erase_map r j)
end Jv

/-! ### keyword calls, dict displays, things that are refused -/
namespace Jv
open PySem PySem.Spec PyProof.Rows L2
section
variable {K : PySem.W.Frag} {σ : L2.St} {H : Hp} {t tk : TA} {te tv : TE} {Q : VK} {A B : Prop}
theorem r_callN {n m : Nat} {sp : Sp} {gV : List V → List V → List V} {E : XK} (h : t σ H fun vs H1 => tk σ H1 fun zs H2 => vs.length = n ∧ zs.length = m ∧ sp (gV vs zs) H2 Q E) : tCallN n m sp gV E t tk σ H Q := h
theorem r_disp1 {k v : Int} (q : ∀ p, H p = none → Q (.ref p) (upd H p (.dK [(.inl k, .int v)]))) : tDisp [(tC (.int k), tC (.int v))] σ H Q := fun p hp =>
  ⟨upd_same, [(.inl k, .int v)], rfl, Nat.le_of_ble_eq_true rfl, by rw [upd_upd]; exact q p hp⟩
theorem r_disp2 {k v k' v' : Int} (ne : k ≠ k') (q : ∀ p, H p = none → Q (.ref p) (upd H p (.dK [(.inl k, .int v), (.inl k', .int v')]))) : tDisp [(tC (.int k), tC (.int v)), (tC (.int k'), tC (.int v'))] σ H Q := fun p hp =>
  ⟨upd_same, [(.inl k, .int v), (.inl k', .int v')], rfl, Nat.le_of_ble_eq_true rfl, by
    rw [upd_upd]
    have e : mergeK ([] : List (Key × V)) [(.inl k, .int v), (.inl k', .int v')] = [(.inl k, .int v), (.inl k', .int v')] := by
      simp [mergeK, putK, ne]
    rw [e]; exact q p hp⟩
theorem r_same {b : Bool} (q : B) : if (!decide (b = b)) = true then A else B := r_false (by rw [decide_eq_true rfl]; rfl) q
theorem r_same' {b c : Bool} (e : b = c) (q : B) : if (!decide (b = c)) = true then A else B := by subst e; exact r_same q
/-- the same, in a condition that is not yet an if -/
theorem r_dsame {P : Bool → Prop} {b : Bool} (q : P true) : P (decide (b = b)) := by rw [decide_eq_true rfl]; exact q
theorem r_and_k {te ta : TE} {c : Bool} (h : te σ H fun x H1 => ∃ c, x = .bl c ∧ if c = true then ta σ H1 Q else Q (.bl false) H1) : tAndV te ta σ H Q := h
end
/-- a thing that is neither a lot nor an order nor sides nor a couple -/
def BadTh (H : Hp) (x : V) : Prop := ThS H x ∧ ∀ xs, sqOf H x = some xs → intsV xs = none
theorem BadTh.same {H H' : Hp} {x : V} (h : BadTh H x) (s : Same H H') : BadTh H' x := ⟨h.1.same s, fun xs e => h.2 xs (by rw [← sqOf_same h.1.1 s]; exact e)⟩
theorem BadTh.lot {H : Hp} {x : V} {k : Int} (h : BadTh H x) : lotV H x k = false := by
  unfold lotV
  cases e : sqOf H x with
  | none => rfl
  | some xs => dsimp only; rw [h.2 xs e]
theorem BadTh.order {H : Hp} {x : V} {k : Int} (h : BadTh H x) : orderV H x k = false := by
  unfold orderV
  cases e : sqOf H x with
  | none => rfl
  | some xs => dsimp only; rw [h.2 xs e]
section
variable {H : Hp}
theorem bad_sc {x : V} (h : Th H x) (n : sqOf H x = none) : BadTh H x := ⟨⟨h, fun xs q => by rw [q.of] at n; cases n⟩, fun xs e => by rw [n] at e; cases e⟩
theorem bad_dK {a : Addr} {kvs : List (Key × V)} (h : H a = some (.dK kvs)) : BadTh H (.ref a) := bad_sc (.inr (.inr ⟨_, h⟩)) (by simp [sqOf, h])
theorem bad_sq {a : Addr} {xs : List V} (h : H a = some (.lst xs) ∨ H a = some (.tup xs)) (few : xs.length ≤ 60) (th : ∀ v ∈ xs, Th H v) (n : intsV xs = none) : BadTh H (.ref a) := by
  have sq : Sq H (.ref a) xs := ⟨a, rfl, h⟩
  refine ⟨⟨sq.th, fun ys q => ?_⟩, fun ys e => ?_⟩
  · have e := q.of; rw [sq.of] at e; cases e; exact ⟨few, th⟩
  · rw [sq.of] at e; cases e; exact n
theorem thS_ints {a : Addr} {ns : List Int} (h : H a = some (.lst (ns.map V.int)) ∨ H a = some (.tup (ns.map V.int))) (few : ns.length ≤ 60) : ThS H (.ref a) := by
  have sq : Sq H (.ref a) (ns.map V.int) := ⟨a, rfl, h⟩
  refine ⟨sq.th, fun ys q => ?_⟩
  have e := q.of; rw [sq.of] at e; cases e
  refine ⟨by rw [List.length_map]; exact few, fun v hv => ?_⟩
  obtain ⟨i, _, rfl⟩ := List.mem_map.mp hv
  trivial
theorem wholeV_not {x lo hi : V} (h : isI x = false) : wholeV x lo hi = false := by
  cases x with
  | int i => cases h
  | _ => rfl
theorem shaped_bad {d : PyData} (h : PyData.canLay0 d = true) (h2 : PyData.depth d = 0) : SeqAt.shaped (.list [.str "bad", d]) = true := by
  simp [SeqAt.shaped, PyData.canLay0, PyData.depth, PyData.canLayAll0, PyData.depthAll, h, h2]; decide +kernel
end
end Jv

/-! ### data: none, truths, whole numbers, texts, lists that stand, tuples that stand or are the program's own -/
namespace Jv
open PySem PySem.Spec PyProof.Rows L2
mutual
inductive Dv (K : PySem.W.Frag) (H : Hp) : V → PyData → Prop
  | non : Dv K H .non .none
  | bl (b : Bool) : Dv K H (.bl b) (.bool b)
  | int (i : Int) : Dv K H (.int i) (.int i)
  | str (x : Str) : Dv K H (.str x) (.str x)
  | lst {a : Addr} {xs : List V} {ds : List PyData} : H a = some (.lst xs) → DvAll K H xs ds → Dv K H (.ref a) (.list ds)
  | tup {a : Addr} {xs : List V} {ds : List PyData} : SqT K H a xs → DvAll K H xs ds → Dv K H (.ref a) (.tuple ds)
inductive DvAll (K : PySem.W.Frag) (H : Hp) : List V → List PyData → Prop
  | nil : DvAll K H [] []
  | cons {v : V} {vs : List V} {d : PyData} {ds : List PyData} : Dv K H v d → DvAll K H vs ds → DvAll K H (v :: vs) (d :: ds)
end
mutual
theorem Dv.same {K : PySem.W.Frag} {H H' : Hp} (s : Same H H') : ∀ {v : V} {d : PyData}, Dv K H v d → Dv K H' v d
  | _, _, .non => .non
  | _, _, .bl b => .bl b
  | _, _, .int i => .int i
  | _, _, .str x => .str x
  | _, _, .lst h q => .lst (s _ _ h) (DvAll.same s q)
  | _, _, .tup h q => .tup (Jv.Same.sqT s h) (DvAll.same s q)
theorem DvAll.same {K : PySem.W.Frag} {H H' : Hp} (s : Same H H') : ∀ {vs : List V} {ds : List PyData}, DvAll K H vs ds → DvAll K H' vs ds
  | _, _, .nil => .nil
  | _, _, .cons a b => .cons (Dv.same s a) (DvAll.same s b)
end
mutual
theorem Dv.dp {K : PySem.W.Frag} {H : Hp} : ∀ {v : V} {d : PyData}, Dv K H v d → Dp K H v d
  | _, _, .non => .non
  | _, _, .bl b => .bl b
  | _, _, .int i => .int i
  | _, _, .str x => .str x
  | _, _, .lst h q => .lst (sqL_at h) (DvAll.dp q)
  | _, _, .tup h q => .tup h (DvAll.dp q)
theorem DvAll.dp {K : PySem.W.Frag} {H : Hp} : ∀ {vs : List V} {ds : List PyData}, DvAll K H vs ds → DpAll K H vs ds
  | _, _, .nil => .nil
  | _, _, .cons a b => .cons (Dv.dp a) (DvAll.dp b)
end
section
variable {K : PySem.W.Frag} {H : Hp} {v : V} {d : PyData} {vs : List V} {ds : List PyData}
theorem DvAll.len : ∀ {vs : List V} {ds : List PyData}, DvAll K H vs ds → vs.length = ds.length
  | _, _, .nil => rfl
  | _, _, .cons _ b => congrArg (· + 1) (DvAll.len b)
theorem DvAll.snoc (h : Dv K H v d) : ∀ {vs : List V} {ds : List PyData}, DvAll K H vs ds → DvAll K H (vs ++ [v]) (ds ++ [d])
  | _, _, .nil => .cons h .nil
  | _, _, .cons a b => .cons a (DvAll.snoc h b)
theorem DvAll.at : ∀ {vs : List V} {ds : List PyData} {i : Nat} {v : V}, DvAll K H vs ds → vs[i]? = some v → ∃ d, ds[i]? = some d ∧ Dv K H v d
  | _, _, _, _, .nil, e => by simp at e
  | _, _, 0, _, .cons a _, e => by
    simp at e; subst e; exact ⟨_, rfl, a⟩
  | _, _, i + 1, _, .cons _ b, e => by
    simp at e ⊢; exact DvAll.at b e
theorem DvAll.of : ∀ {vs : List V} {ds : List PyData} {i : Nat} {d : PyData}, DvAll K H vs ds → ds[i]? = some d → ∃ v, vs[i]? = some v ∧ Dv K H v d
  | _, _, _, _, .nil, e => by simp at e
  | _, _, 0, _, .cons a _, e => by
    simp at e; subst e; exact ⟨_, rfl, a⟩
  | _, _, i + 1, _, .cons _ b, e => by
    simp at e ⊢; exact DvAll.of b e
theorem dv_ints : ∀ ns : List Int, DvAll K H (ns.map V.int) (ns.map PyData.int)
  | [] => .nil
  | a :: r => .cons (.int a) (dv_ints r)
end
/-- what sort a thing is -/
def tyD : PyData → String
  | .none => "NoneType"
  | .bool _ => "bool"
  | .int _ => "int"
  | .str _ => "str"
  | .list _ => "list"
  | .tuple _ => "tuple"
  | _ => "object"
def boolD : PyData → Bool
  | .bool _ => true
  | _ => false
def intD : PyData → Bool
  | .int _ => true
  | _ => false
def seqD : PyData → Option (List PyData)
  | .list xs => some xs
  | .tuple xs => some xs
  | _ => none
section
variable {K : PySem.W.Frag} {H : Hp} {v : V} {d : PyData} {Q : VK}
theorem SqT.tyX {a : Addr} {xs : List V} (h : SqT K H a xs) : TyX K H (.ref a) (.type "tuple") := by
  rcases h with (h | ⟨o, h⟩) | ⟨o, its, n, h, c, _⟩
  · exact .base (.tup h)
  · exact .fTuple h
  · exact .kTuple h c
theorem Dv.ty (h : Dv K H v d) : TyX K H v (.type (tyD d)) := by
  cases h with
  | non => exact .base .non
  | bl b => exact .base (.bl b)
  | int i => exact .base (.int i)
  | str x => exact .base (.str x)
  | lst h _ => exact .base (.lst h)
  | tup h _ => exact SqT.tyX h
theorem Dv.kits (h : Dv K H v d) : kitB (tyD d) "bool" = some (boolD d) ∧ kitB (tyD d) "int" = some (boolD d || intD d) ∧ kitB (tyD d) "list" = some (tyD d == "list") ∧ kitB (tyD d) "tuple" = some (tyD d == "tuple") ∧ kitB (tyD d) "str" = some (tyD d == "str") ∧ ((tyD d == "list") || (tyD d == "tuple")) = (seqD d).isSome := by
  cases h with
  | non => exact ⟨(by decide +kernel : kitB "NoneType" "bool" = some false), (by decide +kernel : kitB "NoneType" "int" = some false), (by decide +kernel : kitB "NoneType" "list" = some ("NoneType" == "list")), (by decide +kernel : kitB "NoneType" "tuple" = some ("NoneType" == "tuple")), (by decide +kernel : kitB "NoneType" "str" = some ("NoneType" == "str")), (by decide +kernel : (("NoneType" == "list") || ("NoneType" == "tuple")) = false)⟩
  | bl b => exact ⟨(by decide +kernel : kitB "bool" "bool" = some true), (by decide +kernel : kitB "bool" "int" = some true), (by decide +kernel : kitB "bool" "list" = some ("bool" == "list")), (by decide +kernel : kitB "bool" "tuple" = some ("bool" == "tuple")), (by decide +kernel : kitB "bool" "str" = some ("bool" == "str")), (by decide +kernel : (("bool" == "list") || ("bool" == "tuple")) = false)⟩
  | int i => exact ⟨(by decide +kernel : kitB "int" "bool" = some false), (by decide +kernel : kitB "int" "int" = some true), (by decide +kernel : kitB "int" "list" = some ("int" == "list")), (by decide +kernel : kitB "int" "tuple" = some ("int" == "tuple")), (by decide +kernel : kitB "int" "str" = some ("int" == "str")), (by decide +kernel : (("int" == "list") || ("int" == "tuple")) = false)⟩
  | str x => exact ⟨(by decide +kernel : kitB "str" "bool" = some false), (by decide +kernel : kitB "str" "int" = some false), (by decide +kernel : kitB "str" "list" = some ("str" == "list")), (by decide +kernel : kitB "str" "tuple" = some ("str" == "tuple")), (by decide +kernel : kitB "str" "str" = some ("str" == "str")), (by decide +kernel : (("str" == "list") || ("str" == "tuple")) = false)⟩
  | lst _ _ => exact ⟨(by decide +kernel : kitB "list" "bool" = some false), (by decide +kernel : kitB "list" "int" = some false), (by decide +kernel : kitB "list" "list" = some ("list" == "list")), (by decide +kernel : kitB "list" "tuple" = some ("list" == "tuple")), (by decide +kernel : kitB "list" "str" = some ("list" == "str")), (by decide +kernel : (("list" == "list") || ("list" == "tuple")) = true)⟩
  | tup _ _ => exact ⟨(by decide +kernel : kitB "tuple" "bool" = some false), (by decide +kernel : kitB "tuple" "int" = some false), (by decide +kernel : kitB "tuple" "list" = some ("tuple" == "list")), (by decide +kernel : kitB "tuple" "tuple" = some ("tuple" == "tuple")), (by decide +kernel : kitB "tuple" "str" = some ("tuple" == "str")), (by decide +kernel : (("tuple" == "list") || ("tuple" == "tuple")) = true)⟩
theorem d_isB (h : Dv K H v d) (q : Q (.bl (boolD d)) H) : rIsi K [v, .ty "bool"] H Q := ⟨v, _, _, _, _, rfl, .ty _, h.ty, kit_ty h.kits.1, q⟩
theorem d_isI (h : Dv K H v d) (q : Q (.bl (boolD d || intD d)) H) : rIsi K [v, .ty "int"] H Q := ⟨v, _, _, _, _, rfl, .ty _, h.ty, kit_ty h.kits.2.1, q⟩
theorem d_isT (h : Dv K H v d) (q : Q (.bl (tyD d == "tuple")) H) : rIsi K [v, .ty "tuple"] H Q := ⟨v, _, _, _, _, rfl, .ty _, h.ty, kit_ty h.kits.2.2.2.1, q⟩
theorem d_isStr (h : Dv K H v d) (q : Q (.bl (tyD d == "str")) H) : rIsi K [v, .ty "str"] H Q := ⟨v, _, _, _, _, rfl, .ty _, h.ty, kit_ty h.kits.2.2.2.2.1, q⟩
theorem d_isS {p : Addr} (hp : H p = some (.tup [.ty "list", .ty "tuple"])) (h : Dv K H v d) (q : Q (.bl (seqD d).isSome) H) : rIsiT K [v, .ref p] H Q := by
  obtain ⟨_, _, h2, h3, _, h4⟩ := h.kits
  refine ⟨v, p, _, _, _, (seqD d).isSome, rfl, hp, .cons (.ty _) (.cons (.ty _) .nil), h.ty, ?_, q⟩
  refine kitAny_cons (kit_ty h2) (fun e => ?_) fun e => by rw [← h4, e]; rfl
  refine kitAny_cons (kit_ty h3) (fun e2 => ?_) fun e2 => by rw [← h4, e2, Bool.or_true]
  rw [kitAny_nil, ← h4, e, e2]; rfl
/-- a sequence's items -/
theorem Dv.seq (h : Dv K H v d) {ds : List PyData} (e : seqD d = some ds) : ∃ a xs, v = .ref a ∧ (SqL K H a xs ∨ SqT K H a xs) ∧ DvAll K H xs ds := by
  cases h with
  | lst h q => cases e; exact ⟨_, _, rfl, .inl (sqL_at h), q⟩
  | tup h q => cases e; exact ⟨_, _, rfl, .inr h, q⟩
  | _ => cases e
end
/-- is_whole's answer, of data -/
def wholeD : PyData → V → V → Bool
  | .int i, lo, hi => loOk lo i && hiOk hi i
  | _, _, _ => false
end Jv

/-! ### methods, makings that may raise within a try; static methods; readings of objects -/
namespace Jv
open PySem PySem.Spec PyProof.Rows L2
section
variable {X : Cx} {CX : CXT} {k : Nat} {f C : Addr} {fd : FuncData} {ps : List Str} {sp : Sp} {dvs : List V} {ds : List Value} {E : L2.St → XK} {x m : Str} {p pos apos : Pos} {e o : Expr} {es : List Expr} {ta : TE} {t : TA}
theorem run_fnX {pins : List (Addr × Obj)} {σ : L2.St} {H : Hp} {s : Shared} {Q : VK} {us : List Value} {vs : List V} (F : FnOk X.prog X.w X.K X.mg X.base CX k f fd ps sp) (hr : Room k X.A) (hb : Binds X.K fd ps ds) (hd : Vals dvs ds) (hx : PassesAt CX X σ (E σ))
    (I : Inv X pins σ H s) (r : Vals vs us) (h : sp (vs ++ dvs) H Q (E σ)) : wpAny (model X.prog X.w) X.A (call (.ref f) us) (EP X pins σ Q) X.xe s := by
  have r2 : Vals (vs ++ dvs) (us ++ ds) := r.append hd
  have hl : (us ++ ds).length = ps.length := by rw [← r2.length]; exact F.len _ _ _ _ h
  refine wpAny_call (codeAny_mono (F.run X.A X.stack s H ⟨us, []⟩ (us ++ ds) (vs ++ dvs) Q (E σ) hr I.env0 (hb s us I.kIn hl) r2 h) fun r s' hq => ?_)
  cases r with
  | error e => exact hx pins H s e s' I hq
  | ok fl =>
    cases fl with
    | ret u => exact I.after hq
    | next => exact False.elim hq
    | brk => exact False.elim hq
    | cont => exact False.elim hq
def tMethX (C : Addr) (m : Str) (sp : Sp) (dvs : List V) (E : L2.St → XK) (ta : TE) (t : TA) : TE := fun σ H Q => ta σ H fun x H1 => ∃ a dx fs, x = .ref a ∧ H1 a = some (.ins C dx fs) ∧ fs.lookup m = none ∧
  t σ H1 fun vs H2 => sp (x :: (vs ++ dvs)) H2 Q (E σ)
theorem pe_methX {pl : Sem Bool} (he : PE X o ta) (c : Cls X.K C) (hm : Meth X.K C m f) (F : FnOk X.prog X.w X.K X.mg X.base CX k f fd ps sp) (hr : Room k X.A) (hb : Binds X.K fd ps ds) (hd : Vals dvs ds) (hx : ∀ σ, PassesAt CX X σ (E σ)) (ha : PA X (e :: es) t)
    (hst : starEach (e :: es) X.env = (false, eval e X.env) :: starEach es X.env := by rfl) (hpl : (backTo pos (starEach es X.env)).any (·.1) = false := by rfl)
    (ht : eval (.Call (.Attribute o m apos) (e :: es) [] pos) X.env = (do
      let ov ← eval o X.env
      standAt apos.atName
      let (f, first) ← holding [ov] (getMethod ov m pl)
      callWith pos f first (backTo pos (starEach (e :: es) X.env)) (backToKw pos (keywordEach [] X.env))) := by rfl) :
    PE X (.Call (.Attribute o m apos) (e :: es) [] pos) (tMethX C m sp dvs E ta t) := by
  refine ⟨fun pins s σ H Q I h => ?_⟩
  refine PySem.W.methodCall_KW (pl := pl) (thn (he.run pins s σ H _ I h) fun u s1 ⟨x, H1, I1, rx, a, dx, fs, ex, ea, l, q⟩ => ?_) ht
  subst ex
  obtain rfl : u = Value.ref a := rx
  refine getmeth_ok I1 ea c hm l ?_
  refine PySem.W.callWith_K (first := [.ref a]) (h₀ := X.base) I.ok.mod.kin hm.kp (thn (ha.run pos pins s1 σ H1 _ I1 q) fun us s2 ⟨vs, H2, I2, r, q2⟩ => ⟨I2.kIn, ?_⟩) hst hpl
  exact run_fnX (us := .ref a :: us) (vs := .ref a :: vs) F hr hb hd (hx σ) I2 (.cons rfl r) q2
def tMakeX (C : Addr) (sp : Sp) (dvs : List V) (E : L2.St → XK) (t : TA) : TE := fun σ H Q => t σ H fun vs H1 => ∀ x dx, H1 x = none → H1 dx = none → dx ≠ x →
  sp (.ref x :: (vs ++ dvs)) (upd (upd H1 dx (.own x)) x (.ins C dx [])) (fun v H2 => v = .non ∧ Q (.ref x) H2) (E σ)
theorem run_makeX {pins : List (Addr × Obj)} {σ : L2.St} {H : Hp} {s : Shared} {Q : VK} {us : List Value} {vs : List V} (M : Mk X.K C f) (F : FnOk X.prog X.w X.K X.mg X.base CX k f fd ps sp) (hr : Room (k + 1) X.A) (hb : Binds X.K fd ps ds) (hd : Vals dvs ds)
    (hx : PassesAt CX X σ (E σ)) (I : Inv X pins σ H s) (r : Vals vs us)
    (h : ∀ x dx, H x = none → H dx = none → dx ≠ x → sp (.ref x :: (vs ++ dvs)) (upd (upd H dx (.own x)) x (.ins C dx [])) (fun v H2 => v = .non ∧ Q (.ref x) H2) (E σ)) :
    wpAny (model X.prog X.w) X.A (call (.ref C) us) (EP X pins σ Q) X.xe s := by
  have hq := h (s.heap.objs.size + 1) s.heap.objs.size (I.hok.fresh (Nat.le_succ _)) (I.hok.fresh (Nat.le_refl _)) (Nat.ne_of_lt (Nat.lt_succ_self _))
  have I2 := Inv.made (C := C) I
  have r2 : Vals (V.ref (s.heap.objs.size + 1) :: (vs ++ dvs)) (Value.ref (s.heap.objs.size + 1) :: (us ++ ds)) := .cons rfl (r.append hd)
  have hl : (Value.ref (s.heap.objs.size + 1) :: us ++ ds).length = ps.length := by
    have e := r2.length
    rw [F.len _ _ _ _ hq] at e
    exact e.symm
  refine wpAny_call (make_map (f := f) I.kIn M.makes M.init (beq_iff_eq.mp M.fn) (codeAny_mono (F.run _ X.stack _ _ ⟨Value.ref (s.heap.objs.size + 1) :: us, []⟩ (Value.ref (s.heap.objs.size + 1) :: (us ++ ds)) _ _ (E σ) (hr.make C us [])
    (I2.env0.make C us []) (hb _ (Value.ref (s.heap.objs.size + 1) :: us) I2.kIn hl) r2 hq) fun r s' hq' => ?_))
  cases r with
  | error e => exact hx pins _ _ e s' I2 hq'
  | ok fl =>
    cases fl with
    | ret u =>
      obtain ⟨v, H', I3, rv, ev, q3⟩ := I2.after hq'
      subst ev
      exact ⟨rv, ⟨V.ref (s.heap.objs.size + 1), H', I3, rfl, q3⟩⟩
    | next => exact False.elim hq'
    | brk => exact False.elim hq'
    | cont => exact False.elim hq'
theorem pe_makeX (M : Mk X.K C f) (F : FnOk X.prog X.w X.K X.mg X.base CX k f fd ps sp) (hr : Room (k + 1) X.A) (hg : Gl X x) (hm : X.mg x = some (.ref C)) (hb : Binds X.K fd ps ds) (hd : Vals dvs ds) (hx : ∀ σ, PassesAt CX X σ (E σ))
    (ha : PA X (e :: es) t) (hdb : (x == ("__debug__" : Str)) = false := by decide) (he : starEach (e :: es) X.env = (false, eval e X.env) :: starEach es X.env := by rfl) (hpl : (backTo pos (starEach es X.env)).any (·.1) = false := by rfl) :
    PE X (.Call (.Name x p) (e :: es) [] pos) (tMakeX C sp dvs E t) := by
  refine ⟨fun pins s σ H Q I h => ?_⟩
  refine wpAny_Call_Name_kw (ld_glob I hg hm ?_ hdb)
  refine PySem.W.callWith_K (h₀ := X.base) I.ok.mod.kin M.kp (thn (ha.run pos pins s σ H _ I h) fun us s1 ⟨vs, H1, I1, r, q⟩ => ⟨I1.kIn, ?_⟩) he hpl
  exact run_makeX M F hr hb hd (hx σ) I1 r q
end
/-- C.m is a static method: its record at p, its def at g -/
structure SMet (K : PySem.W.Frag) (C : Addr) (mc : Value) (m : Str) (p g : Addr) : Prop where
  rd : PySem.W.readsIn K C mc = true
  ga : PySem.W.specialIn K (.ref C) "__getattribute__" = some (some (.builtin "type.__getattribute__"))
  at_ : PySem.W.findCls K (.ref C) mc m = some (.get (.builtin "staticmethod.__get__") (.ref p) .none (.ref C))
  rc : ∃ rest, PySem.W.recIn K p "staticmethod" = some (.ref g :: rest)
  kp : PySem.W.keepIn K (.ref g) = true
section
variable {X : Cx} {CX : CXT} {k : Nat} {g p C : Addr} {mc : Value} {fd : FuncData} {ps : List Str} {sp : Sp} {dvs : List V} {ds : List Value} {E : XK} {m : Str} {pos apos : Pos} {e o : Expr} {es : List Expr} {ta : TE} {t : TA}
def tSMeth (C : Addr) (sp : Sp) (dvs : List V) (E : XK) (ta : TE) (t : TA) : TE := fun σ H Q => ta σ H fun x H1 => x = .ref C ∧ t σ H1 fun vs H2 => sp (vs ++ dvs) H2 Q E
theorem getsm_ok {pins : List (Addr × Obj)} {σ : L2.St} {H : Hp} {s : Shared} {A : Around} {E : Value → Shared → Prop} {pl : Sem Bool} {Q : Value × List Value → Shared → Prop} (I : Inv X pins σ H s) (r : SMet X.K C mc m p g)
    (h : ∀ s', Inv X pins σ H s' → Q (.ref g, []) s') : wpAny (model X.prog X.w) A (getMethod (.ref C) m pl) Q E s := by
  obtain ⟨rest, hp⟩ := r.rc
  refine PySem.W.method_cls I.kIn r.ga (PySem.W.cls_bind I.kIn r.rd r.at_ ?_)
  exact wpAny_call (PySem.W.sm_get (s := { s with toks := s.toks + 1 }) I.kIn hp (PySem.W.handed_on rfl (h _ (I.tok _))))
theorem pe_smeth {pl : Sem Bool} (he : PE X o ta) (c : SMet X.K C mc m p g) (F : FnOk X.prog X.w X.K X.mg X.base CX k g fd ps sp) (hr : Room k X.A) (hb : Binds X.K fd ps ds) (hd : Vals dvs ds) (hx : Passes CX X E) (ha : PA X (e :: es) t)
    (hst : starEach (e :: es) X.env = (false, eval e X.env) :: starEach es X.env := by rfl) (hpl : (backTo pos (starEach es X.env)).any (·.1) = false := by rfl)
    (ht : eval (.Call (.Attribute o m apos) (e :: es) [] pos) X.env = (do
      let ov ← eval o X.env
      standAt apos.atName
      let (f, first) ← holding [ov] (getMethod ov m pl)
      callWith pos f first (backTo pos (starEach (e :: es) X.env)) (backToKw pos (keywordEach [] X.env))) := by rfl) :
    PE X (.Call (.Attribute o m apos) (e :: es) [] pos) (tSMeth C sp dvs E ta t) := by
  refine ⟨fun pins s σ H Q I h => ?_⟩
  refine PySem.W.methodCall_KW (pl := pl) (thn (he.run pins s σ H _ I h) fun u s1 ⟨x, H1, I1, rx, ex, q⟩ => ?_) ht
  subst ex
  obtain rfl : u = Value.ref C := rx
  refine getsm_ok I1 c fun s2 I2 => ?_
  refine PySem.W.callWith_K (first := []) (h₀ := X.base) I.ok.mod.kin c.kp (thn (ha.run pos pins s2 σ H1 _ I2 q) fun us s3 ⟨vs, H2, I3, rv, q2⟩ => ⟨I3.kIn, ?_⟩) hst hpl
  exact run_fn F hr hb hd hx I3 rv q2
end
end Jv

/-! ### is True, is False of any thing; faults caught by one of two names -/
namespace Jv
open PySem PySem.Spec PyProof.Rows L2
/-- a is b, b True or False -/
def rIsT : R2 := fun x y H Q => ∃ b : Bool, y = .bl b ∧ Q (.bl (decide (x = .bl b))) H
theorem op_isT {X : Cx} : OpR X (compareOp .Is) rIsT := by
  intro pins s σ H x y v u Q I rx ry h
  obtain ⟨b, rfl, q⟩ := h
  cases (show u = Value.bool b from ry)
  by_cases e : x = .bl b
  · subst e
    cases (show v = Value.bool b from rx)
    exact wpAny_is_self rfl ⟨.bl true, H, I, rfl, by simpa using q⟩
  · have e2 : decide (x = .bl b) = false := decide_eq_false e
    rw [e2] at q
    refine wpAny_is_other ?_ ?_ ⟨.bl false, H, I, rfl, q⟩
    · cases x <;> first
        | (cases rx; rfl)
        | (obtain ⟨t, rfl⟩ := rx; rfl)
    · intro z
      cases x with
      | bl c => cases (show v = Value.bool c from rx); exact e (by cases z; rfl)
      | non => cases rx; cases z
      | int i => obtain ⟨t, rfl⟩ := rx; cases z
      | str i => obtain ⟨t, rfl⟩ := rx; cases z
      | byt i => obtain ⟨t, rfl⟩ := rx; cases z
      | flt i => obtain ⟨t, rfl⟩ := rx; cases z
      | ref a => cases (show v = Value.ref a from rx); cases z
      | ty a => cases (show v = Value.type a from rx); cases z
end Jv

/-! ### sequences that stand or are the program's own; walks, comprehensions over them; data's answers -/
namespace Jv
open PySem PySem.Spec PyProof.Rows L2
def Sk (K : PySem.W.Frag) (H : Hp) (x : V) (xs : List V) : Prop := ∃ a, x = .ref a ∧ (SqL K H a xs ∨ SqT K H a xs)
section
variable {K : PySem.W.Frag} {σ : L2.St} {H H' : Hp} {te : TE} {Q : VK} {xs : List V} {ds : List PyData} {j i : Nat} {x v : V} {d : PyData}
theorem Sk.same (h : Sk K H x xs) (s : Same H H') : Sk K H' x xs := by
  obtain ⟨a, rfl, h | h⟩ := h
  · exact ⟨a, rfl, .inl (s.seq h)⟩
  · exact ⟨a, rfl, .inr (Jv.Same.sqT s h)⟩
theorem Dv.sk (h : Dv K H v d) (e : seqD d = some ds) : ∃ xs, Sk K H v xs ∧ DvAll K H xs ds := by
  obtain ⟨a, xs, e1, e2, e3⟩ := h.seq e
  exact ⟨xs, ⟨a, e1, e2⟩, e3⟩
theorem Sk.len (h : Sk K H x xs) (q : Q (.int xs.length) H) : rLenK K [x] H Q := by
  obtain ⟨a, rfl, h⟩ := h
  exact r_len h q
theorem Sk.ix (h : Sk K H x xs) {k : Int} {v : V} (e : atI xs k = some v) (q : Q v H) : rIx K x (.int k) H Q := by
  obtain ⟨a, rfl, h | h⟩ := h
  · exact .inl (r_ixL h e q)
  · exact .inr (.inl (r_ixT h e q))
/-- over a name that holds a list or a tuple -/
theorem lcK (hv : σ[i]? = some (some x)) (hx : Sk K H x xs) (f : V → V) (few : xs.length ≤ 1000)
    (hs : ∀ v H1, v ∈ xs → Same H H1 → ∀ P : VK, (∀ H2, Same H1 H2 → P (f v) H2) → te ((σ.set j none).set j (some v)) H1 P)
    (hd : ∀ D H1, Same H H1 → H D = none → H1 D = some (.lst (xs.map f)) → Q (.ref D) H1) : tLc (fun σ H R => iList K (tVar i) σ H R ∨ iTup K (tVar i) σ H R) (gName j) tYes te [j] σ H Q := by
  obtain ⟨a, rfl, h | h⟩ := hx
  · exact .inl (lcL hv h f few hs hd)
  · exact .inr (lcT hv h f few hs hd)
theorem Sk.tup (h : Sk K H x xs) (q : ∀ (t : Addr) (H' : Hp), Same H H' → SqT K H' t xs → Q (.ref t) H') : rTupOf K [x] H Q := by
  obtain ⟨a, rfl, h | h⟩ := h
  · exact ⟨a, _, rfl, .inl ⟨h, fun l hl => q l _ (same_new hl) (sqT_at upd_same)⟩⟩
  · exact ⟨a, _, rfl, .inr ⟨h, q a _ (Same.refl _) h⟩⟩
end
def few1 (d : PyData) : Prop := ∀ ds, seqD d = some ds → ds.length ≤ 100
def few2 (d : PyData) : Prop := ∀ ds, seqD d = some ds → ds.length ≤ 100 ∧ ∀ e ∈ ds, few1 e
def few3 (d : PyData) : Prop := ∀ ds, seqD d = some ds → ds.length ≤ 100 ∧ ∀ e ∈ ds, few2 e
theorem DvAll.mem {K : PySem.W.Frag} {H : Hp} : ∀ {vs : List V} {ds : List PyData} {v : V}, DvAll K H vs ds → v ∈ vs → ∃ d ∈ ds, Dv K H v d
  | _, _, _, .nil, m => by cases m
  | _, _, _, .cons a b, m => by
    rcases List.mem_cons.mp m with rfl | m
    · exact ⟨_, List.mem_cons_self, a⟩
    · obtain ⟨d, h1, h2⟩ := DvAll.mem b m
      exact ⟨d, List.mem_cons_of_mem _ h1, h2⟩
theorem Dv.whole {K : PySem.W.Frag} {H : Hp} {v lo hi : V} {d : PyData} (h : Dv K H v d) : wholeV v lo hi = wholeD d lo hi := by
  cases h <;> rfl
/-- a function of things that goes by what they are -/
theorem DvAll.all {K : PySem.W.Frag} {H : Hp} {f : V → Bool} {g : PyData → Bool} (e : ∀ v d, Dv K H v d → f v = g d) : ∀ {vs : List V} {ds : List PyData}, DvAll K H vs ds → vs.all f = ds.all g
  | _, _, .nil => rfl
  | _, _, .cons a b => by rw [List.all_cons, List.all_cons, e _ _ a, DvAll.all e b]
def sidesD (d : PyData) : Bool := match seqD d with
  | some [.int p, .int q] => decide ((1 ≤ p ∧ p ≤ 6) ∧ (1 ≤ q ∧ q ≤ 6) ∧ p * q ≤ 12)
  | _ => false
def endsD (l : Int) (d : PyData) : Bool := match seqD d with
  | some ds => decide (0 < ds.length) && ds.all fun e => wholeD e (.int (-l)) (.int l)
  | none => false
def knowsD (d : PyData) : Bool := match seqD d with
  | some ds => decide (ds.length = 2) && ds.all boolD
  | none => false
theorem boolD_iff {K : PySem.W.Frag} {H : Hp} {v : V} {d : PyData} (h : Dv K H v d) : (decide (v = .bl true) || decide (v = .bl false)) = boolD d := by
  cases h with
  | bl b => cases b <;> rfl
  | _ => rfl
theorem wholeD_int {d : PyData} {l h : Int} : wholeD d (.int l) (.int h) = true → ∃ i, d = .int i ∧ l ≤ i ∧ i ≤ h := by
  intro q
  cases d with
  | int i => simp [wholeD, loOk, hiOk] at q; exact ⟨i, rfl, q⟩
  | _ => cases q
/-- how many lines, how long -/
def linesD (d : PyData) : Option (Nat × Nat) := match seqD d with
  | none => none
  | some ds => if ds.all (fun e => (seqD e).isSome) = true then
      match ds.map (fun e => ((seqD e).getD []).length) with
      | [] => none
      | n :: ns => if ns.all (fun m => decide (m = n)) = true then some (ns.length + 1, n) else none
    else none
end Jv

/-! ### comprehensions whose results are data; the lists under way hidden -/
namespace Jv
open PySem PySem.Spec PyProof.Rows L2
def hide (N : List Addr) (H : Hp) : Hp := fun b => if b ∈ N then none else H b
theorem hide_nil {H : Hp} : hide [] H = H := by funext b; simp [hide]
theorem hide_at {N : List Addr} {H : Hp} {b : Addr} {o : HO} (n : b ∉ N) (h : H b = some o) : hide N H b = some o := by unfold hide; rw [if_neg n]; exact h
theorem hide_some {N : List Addr} {H : Hp} {b : Addr} {o : HO} (h : hide N H b = some o) : b ∉ N ∧ H b = some o := by
  unfold hide at h
  by_cases n : b ∈ N
  · rw [if_pos n] at h; cases h
  · rw [if_neg n] at h; exact ⟨n, h⟩
theorem hide_le {N : List Addr} {H : Hp} : Same (hide N H) H := fun _ _ e => (hide_some e).2
theorem hide_same {N : List Addr} {H H' : Hp} (s : Same H H') : Same (hide N H) (hide N H') := fun _ _ e => hide_at (hide_some e).1 (s _ _ (hide_some e).2)
theorem hide_more {N : List Addr} {H H' : Hp} {D : Addr} (s : Same H H') (n : H D = none) : Same (hide N H) (hide (D :: N) H') := fun b o e => by
  obtain ⟨h1, h2⟩ := hide_some e
  refine hide_at (fun m => ?_) (s _ _ h2)
  rcases List.mem_cons.mp m with rfl | m
  · rw [n] at h2; cases h2
  · exact h1 m
theorem hide_less {N : List Addr} {H : Hp} {D : Addr} : Same (hide (D :: N) H) (hide N H) := fun b o e => by
  obtain ⟨h1, h2⟩ := hide_some e
  exact hide_at (fun m => h1 (List.mem_cons_of_mem _ m)) h2
theorem hide_upd {N : List Addr} {H : Hp} {D : Addr} {o : HO} : hide (D :: N) (upd H D o) = hide (D :: N) H := by
  funext b
  unfold hide
  by_cases m : b ∈ D :: N
  · rw [if_pos m, if_pos m]
  · rw [if_neg m, if_neg m]
    exact upd_ne fun e => m (by rw [e]; exact List.mem_cons_self)
def Held (N : List Addr) (H : Hp) : Prop := ∀ b ∈ N, ∃ o, H b = some o
theorem Held.nil {H : Hp} : Held [] H := fun _ h => by cases h
theorem Held.same {N : List Addr} {H H' : Hp} (h : Held N H) (s : Same H H') : Held N H' := fun b m => let ⟨o, e⟩ := h b m; ⟨o, s _ _ e⟩
theorem Held.cons {N : List Addr} {H : Hp} {D : Addr} {o : HO} (h : Held N H) (e : H D = some o) : Held (D :: N) H := fun b m => by
  rcases List.mem_cons.mp m with rfl | m
  · exact ⟨_, e⟩
  · exact h b m
theorem Held.new {N : List Addr} {H : Hp} {t : Addr} (h : Held N H) (n : H t = none) : t ∉ N := fun m => by
  obtain ⟨o, e⟩ := h t m
  rw [n] at e; cases e
section
variable {K : PySem.W.Frag} {σ : L2.St} {H : Hp} {te : TE} {tt : TT} {Q : VK} {xs : List V} {es : List PyData} {j i n : Nat} {x : V} {N : List Addr} {J : It} {G : Hp → Prop} {Y : Nat → Hp → V → Hp → Prop} {F : Nat → V → Prop}
theorem lcD (w : Walk J n G Y) (hG : ∀ H', Same H H' → G H') (hy : ∀ i H x H', i < n → Y i H x H' → H' = H ∧ F i x) (hN : Held N H) (es : List PyData) (hl : es.length = n) (few : n ≤ 1000)
    (hs : ∀ i v e D H1, i < n → F i v → es[i]? = some e → Same H H1 → Held (D :: N) H1 → H D = none → ∀ P : VK, (∀ y H2, Same H1 H2 → Dv K (hide (D :: N) H2) y e → P y H2) → te ((σ.set j none).set j (some v)) H1 P)
    (hd : ∀ D ys H1, Same H H1 → H D = none → H1 D = some (.lst ys) → DvAll K (hide N H1) ys es → DvAll K (hide (D :: N) H1) ys es → Q (.ref D) H1) : ∀ D, H D = none → ∃ W : Nat → Nat → Hp → Prop, (∃ m, W 0 m (upd H D (.lst []))) ∧ ∀ i m H, W i m H →
      (J.stop i H ∧ Q (.ref D) H) ∨ (J.go i H ∧ ∃ Nx : Hp → Prop, (∀ H', Nx H' → ∃ m', m' < m ∧ W (i + 1) m' H') ∧ ∀ x H', J.yld i H x H' → gName j x (wipe σ [j]) H' fun σ2 H2 => wipe σ2 [j] = wipe σ [j] ∧ tYes σ2 H2 fun b H3 =>
        if b = true then te σ2 H3 fun y H4 => ∃ acc, H4 D = some (.lst acc) ∧ acc.length < sizeLine ∧ Nx (upd H4 D (.lst (acc ++ [y]))) else Nx H3) := by
  intro D hD
  refine lc_it w (fun i H1 => Same H H1 ∧ ∃ ys, H1 D = some (.lst ys) ∧ DvAll K (hide (D :: N) H1) ys (es.take i)) ⟨same_new hD, [], upd_same, .nil⟩ (fun i H1 _ h => hG H1 h.1) ?_ ?_
  · rintro i x H1 H2 hi ⟨s1, ys, e1, al⟩ hx
    obtain ⟨e0, hF⟩ := hy i _ _ _ hi hx
    subst e0
    refine ⟨wipe1, ?_⟩
    refine r_yes ?_
    refine r_true (c := true) rfl ?_
    have hie : i < es.length := by omega
    have he := List.getElem?_eq_getElem hie
    refine hs i x _ D _ hi hF he s1 ((hN.same s1).cons e1) hD _ fun y H3 s3 dy => ⟨_, s3 _ _ e1, ?_, ?_, _, upd_same, ?_⟩
    · rw [al.len, List.length_take]; exact small_lt (by omega)
    · intro b o e; exact kpO (s3 _ _ (s1 b o e)) (ne_of_none e hD)
    · rw [hide_upd, take_more he]
      exact DvAll.snoc dy (al.same (hide_same s3))
  · rintro H1 ⟨s1, ys, e1, al⟩
    rw [List.take_of_length_le (by omega)] at al
    exact hd D ys H1 s1 hD e1 (al.same hide_less) al
theorem yat {xs : List V} : ∀ (i : Nat) (H : Hp) (x : V) (H' : Hp), i < xs.length → YAt xs i H x H' → H' = H ∧ xs[i]? = some x := fun _ _ _ _ _ h => h
theorem yfn {f : Nat → V} {n : Nat} : ∀ (i : Nat) (H : Hp) (x : V) (H' : Hp), i < n → YFn f i H x H' → H' = H ∧ x = f i := fun _ _ _ _ _ h => h
/-- over a name that holds a list or a tuple; the results' data by the data's -/
theorem lcS2 (hv : σ[i]? = some (some x)) (hx : Sk K H x xs) (hN : Held N H) (es : List PyData) (hl : es.length = xs.length) (few : xs.length ≤ 1000)
    (hs : ∀ i v e D H1, i < xs.length → xs[i]? = some v → es[i]? = some e → Same H H1 → Held (D :: N) H1 → H D = none → ∀ P : VK, (∀ y H2, Same H1 H2 → Dv K (hide (D :: N) H2) y e → P y H2) → te ((σ.set j none).set j (some v)) H1 P)
    (hd : ∀ D ys H1, Same H H1 → H D = none → H1 D = some (.lst ys) → DvAll K (hide N H1) ys es → DvAll K (hide (D :: N) H1) ys es → Q (.ref D) H1) : tLc (fun σ H R => iList K (tVar i) σ H R ∨ iTup K (tVar i) σ H R) (gName j) tYes te [j] σ H Q := by
  obtain ⟨a, rfl, h | h⟩ := hx
  · exact .inl ⟨_, hv, a, rfl, ⟨xs, h⟩, lcD walk_list (fun H' s => s.seq h) yat hN es hl few hs hd⟩
  · exact .inr ⟨_, hv, a, rfl, ⟨xs, h⟩, lcD walk_tup (fun H' s => Jv.Same.sqT s h) yat hN es hl few hs hd⟩
end
/-- results that are truths -/
theorem dv_bools {K : PySem.W.Frag} {H : Hp} : ∀ {ys : List V} {bs : List Bool}, DvAll K H ys (bs.map PyData.bool) → ys = bs.map V.bl
  | [], [], _ => rfl
  | _, b :: bs, .cons (.bl _) r => by rw [dv_bools r]; rfl
theorem dv_intsV {K : PySem.W.Frag} {H : Hp} : ∀ {ys : List V} {ns : List Int}, DvAll K H ys (ns.map PyData.int) → ys = ns.map V.int
  | [], [], _ => rfl
  | _, b :: bs, .cons (.int _) r => by rw [dv_intsV r]; rfl
end Jv

/-! ### comprehensions of two walks over data -/
namespace Jv
open PySem PySem.Spec PyProof.Rows L2
def rowG (g : PyData → PyData) (r : PyData) : List PyData := ((seqD r).getD []).map g
def upTo (g : PyData → PyData) (ds : List PyData) (m n : Nat) : List PyData := (ds.take m).flatMap (rowG g) ++ (((ds[m]?.map (rowG g)).getD []).take n)
theorem upTo_more {g : PyData → PyData} {ds : List PyData} {m n : Nat} {r d : PyData} {l : List PyData} (hr : ds[m]? = some r) (hl : seqD r = some l) (hd : l[n]? = some d) : upTo g ds m (n + 1) = upTo g ds m n ++ [g d] := by
  unfold upTo
  rw [hr, List.append_assoc]
  congr 1
  show (rowG g r).take (n + 1) = (rowG g r).take n ++ [g d]
  refine take_more ?_
  unfold rowG
  rw [hl]
  show (l.map g)[n]? = _
  rw [List.getElem?_map, hd]; rfl
theorem upTo_next {g : PyData → PyData} {ds : List PyData} {m : Nat} {r : PyData} {l : List PyData} (hr : ds[m]? = some r) (hl : seqD r = some l) : upTo g ds m l.length = upTo g ds (m + 1) 0 := by
  unfold upTo
  rw [hr, take_more hr, List.flatMap_append]
  have : (rowG g r).take l.length = rowG g r := by
    unfold rowG; rw [hl]
    exact List.take_of_length_le (by show (l.map g).length ≤ _; rw [List.length_map]; exact Nat.le_refl _)
  show _ ++ (rowG g r).take l.length = _
  rw [this]
  simp
theorem upTo_end {g : PyData → PyData} {ds : List PyData} : upTo g ds ds.length 0 = ds.flatMap (rowG g) := by
  unfold upTo
  simp
theorem flat_len {f : PyData → List PyData} : ∀ {l : List PyData}, (∀ e ∈ l, (f e).length ≤ 100) → (l.flatMap f).length ≤ l.length * 100
  | [], _ => by simp
  | a :: r, h => by
    have h1 := h a List.mem_cons_self
    have h2 := flat_len (l := r) fun e m => h e (List.mem_cons_of_mem _ m)
    rw [List.flatMap_cons, List.length_append, List.length_cons, Nat.succ_mul]; omega
section
variable {K : PySem.W.Frag} {σ : L2.St} {H : Hp} {te : TE} {Q : VK} {xs : List V} {ds : List PyData} {i a b : Nat} {x : V} {N : List Addr}
theorem lc2W {J : It} {G : Hp → Prop} (w : Walk J xs.length G (YAt xs)) (hG : ∀ H', Same H H' → G H') (al : DvAll K H xs ds) (hN : Held N H) (g : PyData → PyData)
    (hq : ∀ e ∈ ds, ∃ l, seqD e = some l ∧ l.length ≤ 100) (few : ds.length ≤ 100)
    (w1 : ∀ v, wipe ((wipe σ [a, b]).set a (some v)) [a, b] = wipe σ [a, b])
    (w2 : ∀ v u, wipe ((wipe ((wipe σ [a, b]).set a (some v)) [b]).set b (some u)) [b] = wipe ((wipe σ [a, b]).set a (some v)) [b])
    (ha : ∀ v, ((wipe σ [a, b]).set a (some v))[a]? = some (some v))
    (hs : ∀ v u d D H1, Dv K H1 u d → (∃ e ∈ ds, ∃ l, seqD e = some l ∧ d ∈ l) → Same H H1 → Held (D :: N) H1 → H D = none → ∀ P : VK, (∀ y H2, Same H1 H2 → Dv K (hide (D :: N) H2) y (g d) → P y H2) → te ((wipe ((wipe σ [a, b]).set a (some v)) [b]).set b (some u)) H1 P)
    (hd : ∀ D ys H1, Same H H1 → H D = none → H1 D = some (.lst ys) → DvAll K (hide N H1) ys (ds.flatMap (rowG g)) → Q (.ref D) H1) :
    ∀ D, H D = none → ∃ W : Nat → Nat → Hp → Prop, (∃ m, W 0 m (upd H D (.lst []))) ∧ ∀ i m H, W i m H →
      (J.stop i H ∧ Q (.ref D) H) ∨ (J.go i H ∧ ∃ Nx : Hp → Prop, (∀ H', Nx H' → ∃ m', m' < m ∧ W (i + 1) m' H') ∧ ∀ x H', J.yld i H x H' → gName a x (wipe σ [a, b]) H' fun σ2 H2 => wipe σ2 [a, b] = wipe σ [a, b] ∧ tYes σ2 H2 fun c H3 =>
        if c = true then (iList K (tVar a) σ2 H3 fun J1 H4 => ∃ W1 : Nat → Nat → Hp → Prop, (∃ m, W1 0 m H4) ∧ ∀ j k H, W1 j k H →
          (J1.stop j H ∧ Nx H) ∨ (J1.go j H ∧ ∃ Nx1 : Hp → Prop, (∀ H', Nx1 H' → ∃ k', k' < k ∧ W1 (j + 1) k' H') ∧ ∀ x H', J1.yld j H x H' → gName b x (wipe σ2 [b]) H' fun σ3 H5 => wipe σ3 [b] = wipe σ2 [b] ∧ tYes σ3 H5 fun c H6 =>
            if c = true then te σ3 H6 fun y H7 => ∃ acc, H7 D = some (.lst acc) ∧ acc.length < sizeLine ∧ Nx1 (upd H7 D (.lst (acc ++ [y]))) else Nx1 H6)) ∨ (iTup K (tVar a) σ2 H3 fun J1 H4 => ∃ W1 : Nat → Nat → Hp → Prop, (∃ m, W1 0 m H4) ∧ ∀ j k H, W1 j k H →
          (J1.stop j H ∧ Nx H) ∨ (J1.go j H ∧ ∃ Nx1 : Hp → Prop, (∀ H', Nx1 H' → ∃ k', k' < k ∧ W1 (j + 1) k' H') ∧ ∀ x H', J1.yld j H x H' → gName b x (wipe σ2 [b]) H' fun σ3 H5 => wipe σ3 [b] = wipe σ2 [b] ∧ tYes σ3 H5 fun c H6 =>
            if c = true then te σ3 H6 fun y H7 => ∃ acc, H7 D = some (.lst acc) ∧ acc.length < sizeLine ∧ Nx1 (upd H7 D (.lst (acc ++ [y]))) else Nx1 H6))
        else Nx H3) := by
  intro D hD
  have hlen := al.len
  have bound : ∀ m n, (upTo g ds m n).length < 20000 := by
    intro m n
    unfold upTo
    rw [List.length_append, List.length_take]
    have row : ∀ e ∈ ds, (rowG g e).length ≤ 100 := fun e he => by
      obtain ⟨l, h1, h2⟩ := hq e he
      unfold rowG; rw [h1]; show (l.map g).length ≤ 100; rw [List.length_map]; exact h2
    have h1 := flat_len (f := rowG g) (l := ds.take m) fun e he => row e (List.mem_of_mem_take he)
    have h2 : (ds.take m).length ≤ 100 := by rw [List.length_take]; omega
    have h3 : ((ds[m]?.map (rowG g)).getD []).length ≤ 100 := by
      cases e : ds[m]? with
      | none => simp
      | some r => exact row r (List.mem_of_getElem? e)
    omega
  refine ⟨fun m k H1 => k = xs.length - m ∧ m ≤ xs.length ∧ Same H H1 ∧ ∃ ys, H1 D = some (.lst ys) ∧ DvAll K (hide (D :: N) H1) ys (upTo g ds m 0), ⟨xs.length, by omega, by omega, same_new hD, [], upd_same, by unfold upTo; simp; exact .nil⟩, ?_⟩
  rintro m k H1 ⟨rfl, hm, s1, ys, e1, dv⟩
  by_cases lt : m < xs.length
  · refine .inr ⟨w.goes m H1 lt (hG _ s1), fun H' => Same H H' ∧ ∃ ys, H' D = some (.lst ys) ∧ DvAll K (hide (D :: N) H') ys (upTo g ds (m + 1) 0), fun H' h => ⟨xs.length - (m + 1), by omega, rfl, lt, h⟩, ?_⟩
    rintro v H2 hv0
    obtain ⟨e2, hv⟩ := w.yields m H1 v H2 lt (hG _ s1) hv0
    subst e2
    obtain ⟨r, hr, dr⟩ := al.at hv
    have hrm := List.mem_of_getElem? hr
    obtain ⟨l, hl, fl⟩ := hq r hrm
    refine ⟨w1 _, r_yes (r_true (c := true) rfl ?_)⟩
    obtain ⟨us, ⟨p, ep, hp⟩, du⟩ := dr.sk hl
    subst ep
    have hul := du.len
    have core : ∀ (J1 : It) (G1 : Hp → Prop), Walk J1 us.length G1 (YAt us) → (∀ H', Same H H' → G1 H') → ∃ W1 : Nat → Nat → Hp → Prop, (∃ m, W1 0 m H2) ∧ ∀ j k H5, W1 j k H5 →
        (J1.stop j H5 ∧ (Same H H5 ∧ ∃ ys, H5 D = some (.lst ys) ∧ DvAll K (hide (D :: N) H5) ys (upTo g ds (m + 1) 0))) ∨ (J1.go j H5 ∧ ∃ Nx1 : Hp → Prop, (∀ H', Nx1 H' → ∃ k', k' < k ∧ W1 (j + 1) k' H') ∧ ∀ x H', J1.yld j H5 x H' → gName b x (wipe ((wipe σ [a, b]).set a (some (.ref p))) [b]) H' fun σ3 H5 => wipe σ3 [b] = wipe ((wipe σ [a, b]).set a (some (.ref p))) [b] ∧ tYes σ3 H5 fun c H6 =>
          if c = true then te σ3 H6 fun y H7 => ∃ acc, H7 D = some (.lst acc) ∧ acc.length < sizeLine ∧ Nx1 (upd H7 D (.lst (acc ++ [y]))) else Nx1 H6) := by
      intro J1 G1 wk hG1
      refine ⟨fun j k H5 => k = us.length - j ∧ j ≤ us.length ∧ Same H H5 ∧ ∃ ys, H5 D = some (.lst ys) ∧ DvAll K (hide (D :: N) H5) ys (upTo g ds m j), ⟨us.length, by omega, by omega, s1, ys, e1, dv⟩, ?_⟩
      rintro j k H5 ⟨rfl, hj, s5, zs, e5, dz⟩
      by_cases lt2 : j < us.length
      · refine .inr ⟨wk.goes j H5 lt2 (hG1 _ s5), fun H' => Same H H' ∧ ∃ ys, H' D = some (.lst ys) ∧ DvAll K (hide (D :: N) H') ys (upTo g ds m (j + 1)), fun H' h => ⟨us.length - (j + 1), by omega, rfl, lt2, h⟩, ?_⟩
        rintro u H6 hu0
        obtain ⟨e6, hu⟩ := wk.yields j H5 u H6 lt2 (hG1 _ s5) hu0
        subst e6
        obtain ⟨d, hd1, dd⟩ := du.at hu
        refine ⟨w2 _ _, r_yes (r_true (c := true) rfl ?_)⟩
        refine hs _ _ d D _ (dd.same s5) ⟨r, hrm, l, hl, List.mem_of_getElem? hd1⟩ s5 ((hN.same s5).cons e5) hD _ fun y H7 s7 dy => ⟨_, s7 _ _ e5, ?_, ?_, _, upd_same, ?_⟩
        · rw [dz.len]
          exact Nat.lt_of_lt_of_le (bound m j) (by decide)
        · intro c o hc; exact kpO (s7 _ _ (s5 c o hc)) (ne_of_none hc hD)
        · rw [hide_upd, upTo_more hr hl hd1]
          exact DvAll.snoc dy (dz.same (hide_same s7))
      · have ej : j = l.length := by omega
        subst ej
        refine .inl ⟨by rw [← hul]; exact wk.stops H5 (hG1 _ s5), s5, zs, e5, ?_⟩
        rw [← upTo_next hr hl]; exact dz
    rcases hp with hp | hp
    · exact .inl ⟨_, ha _, p, rfl, ⟨us, s1.seq hp⟩, core _ _ walk_list fun H' s => s.seq hp⟩
    · exact .inr ⟨_, ha _, p, rfl, ⟨us, Jv.Same.sqT s1 hp⟩, core _ _ walk_tup fun H' s => Jv.Same.sqT s hp⟩
  · have em : m = xs.length := by omega
    subst em
    refine .inl ⟨w.stops H1 (hG _ s1), hd D ys H1 s1 hD e1 ?_⟩
    rw [hlen, upTo_end] at dv
    exact dv.same hide_less
theorem lc2D (hv : σ[i]? = some (some x)) (hx : Sk K H x xs) (al : DvAll K H xs ds) (hN : Held N H) (g : PyData → PyData)
    (hq : ∀ e ∈ ds, ∃ l, seqD e = some l ∧ l.length ≤ 100) (few : ds.length ≤ 100)
    (w1 : ∀ v, wipe ((wipe σ [a, b]).set a (some v)) [a, b] = wipe σ [a, b])
    (w2 : ∀ v u, wipe ((wipe ((wipe σ [a, b]).set a (some v)) [b]).set b (some u)) [b] = wipe ((wipe σ [a, b]).set a (some v)) [b])
    (ha : ∀ v, ((wipe σ [a, b]).set a (some v))[a]? = some (some v))
    (hs : ∀ v u d D H1, Dv K H1 u d → (∃ e ∈ ds, ∃ l, seqD e = some l ∧ d ∈ l) → Same H H1 → Held (D :: N) H1 → H D = none → ∀ P : VK, (∀ y H2, Same H1 H2 → Dv K (hide (D :: N) H2) y (g d) → P y H2) → te ((wipe ((wipe σ [a, b]).set a (some v)) [b]).set b (some u)) H1 P)
    (hd : ∀ D ys H1, Same H H1 → H D = none → H1 D = some (.lst ys) → DvAll K (hide N H1) ys (ds.flatMap (rowG g)) → Q (.ref D) H1) :
    tLc2 (fun σ H R => iList K (tVar i) σ H R ∨ iTup K (tVar i) σ H R) (gName a) tYes (fun σ H R => iList K (tVar a) σ H R ∨ iTup K (tVar a) σ H R) (gName b) tYes te [a, b] [b] σ H Q := by
  obtain ⟨p, rfl, h | h⟩ := hx
  · exact .inl ⟨_, hv, p, rfl, ⟨xs, h⟩, lc2W walk_list (fun H' s => s.seq h) al hN g hq few w1 w2 ha hs hd⟩
  · exact .inr ⟨_, hv, p, rfl, ⟨xs, h⟩, lc2W walk_tup (fun H' s => Jv.Same.sqT s h) al hN g hq few w1 w2 ha hs hd⟩
end
end Jv

/-! ### data beside an object's change; readings of fields -/
namespace Jv
open PySem PySem.Spec PyProof.Rows L2
section
variable {K : PySem.W.Frag} {H : Hp} {a C dx : Addr} {fs : List (Str × V)} {o : HO}
theorem SqT.ins (ha : H a = some (.ins C dx fs)) {b : Addr} {xs : List V} (h : SqT K H b xs) : SqT K (upd H a o) b xs := by
  rcases h with (h | ⟨u, h⟩) | h
  · exact .inl (.inl (kpO h fun e => by rw [e, ha] at h; cases h))
  · exact .inl (.inr ⟨u, kpO h fun e => by rw [e, ha] at h; cases h⟩)
  · exact .inr h
mutual
theorem Dv.ins (ha : H a = some (.ins C dx fs)) : ∀ {v : V} {d : PyData}, Dv K H v d → Dv K (upd H a o) v d
  | _, _, .non => .non
  | _, _, .bl b => .bl b
  | _, _, .int i => .int i
  | _, _, .str x => .str x
  | _, _, .lst h q => .lst (kpO h fun e => by rw [e, ha] at h; cases h) (DvAll.ins ha q)
  | _, _, .tup h q => .tup (Jv.SqT.ins ha h) (DvAll.ins ha q)
theorem DvAll.ins (ha : H a = some (.ins C dx fs)) : ∀ {vs : List V} {ds : List PyData}, DvAll K H vs ds → DvAll K (upd H a o) vs ds
  | _, _, .nil => .nil
  | _, _, .cons x y => .cons (Dv.ins ha x) (DvAll.ins ha y)
end
theorem r_sfld {ta tv : TE} {f : Str} {D : Ends} {σ : L2.St} (h : tv σ H fun y H1 => ta σ H1 fun x H2 => ∃ a C dx fs, x = .ref a ∧ H2 a = some (.ins C dx fs) ∧ Cls K C ∧ NoAttr K C f ∧ fs.length < 1000 ∧
  D.nx σ (upd H2 a (.ins C dx (putF f y fs)))) : sFld K ta tv f D σ H := h
theorem r_fld {ta : TE} {f : Str} {σ : L2.St} {Q : VK} (h : ta σ H fun x H1 => ∃ a C dx fs v, x = .ref a ∧ H1 a = some (.ins C dx fs) ∧ Cls K C ∧ NoAttr K C f ∧ fs.lookup f = some v ∧ Q v H1) : tFld K ta f σ H Q := h
end
/-- a new tuple of data -/
theorem dv_new {K : PySem.W.Frag} {H : Hp} {N : List Addr} {t : Addr} {xs : List V} {ds : List PyData} (n : H t = none) (hN : Held N H) (h : DvAll K (hide N H) xs ds) : Dv K (hide N (upd H t (.tup xs))) (.ref t) (.tuple ds) :=
  .tup (sqT_at (hide_at (hN.new n) upd_same)) (h.same (hide_same (same_new n)))
theorem dv_newL {K : PySem.W.Frag} {H : Hp} {N : List Addr} {t : Addr} {xs : List V} {ds : List PyData} (n : H t = none) (hN : Held N H) (h : DvAll K (hide N H) xs ds) : Dv K (hide N (upd H t (.lst xs))) (.ref t) (.list ds) :=
  .lst (hide_at (hN.new n) upd_same) (h.same (hide_same (same_new n)))
end Jv

/-! ### comprehensions over what an expression gives; filters of numbers -/
namespace Jv
open PySem PySem.Spec PyProof.Rows L2
section
variable {K : PySem.W.Frag} {σ : L2.St} {H : Hp} {te te0 : TE} {tt : TT} {Q : VK} {xs : List V} {es : List PyData} {j i n : Nat} {x : V} {N : List Addr}
theorem lcS3 (hit : ∀ P : VK, P x H → te0 σ H P) (hx : Sk K H x xs) (hN : Held N H) (es : List PyData) (hl : es.length = xs.length) (few : xs.length ≤ 1000)
    (hs : ∀ i v e D H1, i < xs.length → xs[i]? = some v → es[i]? = some e → Same H H1 → Held (D :: N) H1 → H D = none → ∀ P : VK, (∀ y H2, Same H1 H2 → Dv K (hide (D :: N) H2) y e → P y H2) → te ((σ.set j none).set j (some v)) H1 P)
    (hd : ∀ D ys H1, Same H H1 → H D = none → H1 D = some (.lst ys) → DvAll K (hide N H1) ys es → DvAll K (hide (D :: N) H1) ys es → Q (.ref D) H1) : tLc (fun σ H R => iList K te0 σ H R ∨ iTup K te0 σ H R) (gName j) tYes te [j] σ H Q := by
  obtain ⟨a, rfl, h | h⟩ := hx
  · exact .inl (hit _ ⟨a, rfl, ⟨xs, h⟩, lcD walk_list (fun H' s => s.seq h) yat hN es hl few hs hd⟩)
  · exact .inr (hit _ ⟨a, rfl, ⟨xs, h⟩, lcD walk_tup (fun H' s => Jv.Same.sqT s h) yat hN es hl few hs hd⟩)
theorem filter_more {f : Int → Bool} {ns : List Int} {i : Nat} {z : Int} (h : ns[i]? = some z) : (ns.take (i + 1)).filter f = (ns.take i).filter f ++ if f z = true then [z] else [] := by
  rw [take_more h, List.filter_append]
  congr 1
  by_cases c : f z = true
  · simp [c]
  · simp [c]
/-- the numbers of a list or a tuple at which a test holds -/
theorem lcFW {J : It} {G : Hp → Prop} {ns : List Int} (w : Walk J (ns.map V.int).length G (YAt (ns.map V.int))) (hG : ∀ H', Same H H' → G H') (f : Int → Bool) (few : ns.length ≤ 1000)
    (ht : ∀ z H1, z ∈ ns → Same H H1 → ∀ R : Bool → Hp → Prop, (∀ H2, Same H1 H2 → R (f z) H2) → tt ((σ.set j none).set j (some (.int z))) H1 R)
    (hs : ∀ z H1, ∀ P : VK, P (.int z) H1 → te ((σ.set j none).set j (some (.int z))) H1 P)
    (hd : ∀ D H1, Same H H1 → H D = none → H1 D = some (.lst ((ns.filter f).map V.int)) → Q (.ref D) H1) : ∀ D, H D = none → ∃ W : Nat → Nat → Hp → Prop, (∃ m, W 0 m (upd H D (.lst []))) ∧ ∀ i m H, W i m H →
      (J.stop i H ∧ Q (.ref D) H) ∨ (J.go i H ∧ ∃ Nx : Hp → Prop, (∀ H', Nx H' → ∃ m', m' < m ∧ W (i + 1) m' H') ∧ ∀ x H', J.yld i H x H' → gName j x (wipe σ [j]) H' fun σ2 H2 => wipe σ2 [j] = wipe σ [j] ∧ tt σ2 H2 fun b H3 =>
        if b = true then te σ2 H3 fun y H4 => ∃ acc, H4 D = some (.lst acc) ∧ acc.length < sizeLine ∧ Nx (upd H4 D (.lst (acc ++ [y]))) else Nx H3) := by
  intro D hD
  refine lc_it w (fun i H1 => Same H H1 ∧ H1 D = some (.lst (((ns.take i).filter f).map V.int))) ⟨same_new hD, upd_same⟩ (fun i H1 _ h => hG H1 h.1) ?_ ?_
  · rintro i x H1 H2 hi ⟨s1, e1⟩ ⟨e0, hx⟩
    subst e0
    obtain ⟨z, hz, rfl⟩ := map_at hx
    refine ⟨wipe1, ht z _ (List.mem_of_getElem? hz) s1 _ fun H3 s3 => ?_⟩
    have e3 := s3 _ _ e1
    by_cases c : f z = true
    · rw [if_pos c]
      refine hs z H3 _ ⟨_, e3, ?_, fun b o e => kpO (s3 _ _ (s1 b o e)) (ne_of_none e hD), ?_⟩
      · rw [List.length_map]
        refine small_lt (Nat.lt_of_le_of_lt (List.length_filter_le _ _) ?_)
        rw [List.length_map] at hi
        rw [List.length_take]; omega
      · rw [upd_same, filter_more hz, if_pos c, List.map_append]; rfl
    · rw [if_neg c]
      refine ⟨s1.trans s3, ?_⟩
      rw [filter_more hz, if_neg c, List.append_nil]; exact e3
  · rintro H1 ⟨s1, e1⟩
    rw [List.length_map, List.take_length] at e1
    exact hd D H1 s1 hD e1
theorem lcF2 {ns : List Int} (hv : σ[i]? = some (some x)) (hx : Sk K H x (ns.map V.int)) (f : Int → Bool) (few : ns.length ≤ 1000)
    (ht : ∀ z H1, z ∈ ns → Same H H1 → ∀ R : Bool → Hp → Prop, (∀ H2, Same H1 H2 → R (f z) H2) → tt ((σ.set j none).set j (some (.int z))) H1 R)
    (hs : ∀ z H1, ∀ P : VK, P (.int z) H1 → te ((σ.set j none).set j (some (.int z))) H1 P)
    (hd : ∀ D H1, Same H H1 → H D = none → H1 D = some (.lst ((ns.filter f).map V.int)) → Q (.ref D) H1) : tLc (fun σ H R => iList K (tVar i) σ H R ∨ iTup K (tVar i) σ H R) (gName j) tt te [j] σ H Q := by
  obtain ⟨a, rfl, h | h⟩ := hx
  · exact .inl ⟨_, hv, a, rfl, ⟨_, h⟩, lcFW walk_list (fun H' s => s.seq h) f few ht hs hd⟩
  · exact .inr ⟨_, hv, a, rfl, ⟨_, h⟩, lcFW walk_tup (fun H' s => Jv.Same.sqT s h) f few ht hs hd⟩
end
end Jv

/-! ### comprehensions whose results are lists of the program's own -/
namespace Jv
open PySem PySem.Spec PyProof.Rows L2
section
variable {K : PySem.W.Frag} {σ : L2.St} {H : Hp} {te te0 : TE} {tt : TT} {Q : VK} {xs : List V} {j n : Nat} {x : V} {J : It} {G : Hp → Prop} {Y : Nat → Hp → V → Hp → Prop} {Fx : Nat → V → Prop} {F : Nat → List V}
theorem lcOwnD (w : Walk J n G Y) (hG : ∀ H', Same H H' → G H') (hy : ∀ i H x H', i < n → Y i H x H' → H' = H ∧ Fx i x) (F : Nat → List V) (few : n ≤ 1000)
    (hs : ∀ i v D H1, i < n → Fx i v → Same H H1 → H D = none → ∀ P : VK, (∀ t H2, H1 t = none → Same H1 H2 → H2 t = some (.lst (F i)) → P (.ref t) H2) → te ((σ.set j none).set j (some v)) H1 P)
    (hd : ∀ D (As : List Addr) H1, Same H H1 → H D = none → As.length = n → As.Nodup → D ∉ As → (∀ b ∈ As, H b = none) → H1 D = some (.lst (As.map V.ref)) → (∀ (k : Nat) b, As[k]? = some b → H1 b = some (.lst (F k))) → Q (.ref D) H1) : ∀ D, H D = none → ∃ W : Nat → Nat → Hp → Prop, (∃ m, W 0 m (upd H D (.lst []))) ∧ ∀ i m H, W i m H →
      (J.stop i H ∧ Q (.ref D) H) ∨ (J.go i H ∧ ∃ Nx : Hp → Prop, (∀ H', Nx H' → ∃ m', m' < m ∧ W (i + 1) m' H') ∧ ∀ x H', J.yld i H x H' → gName j x (wipe σ [j]) H' fun σ2 H2 => wipe σ2 [j] = wipe σ [j] ∧ tYes σ2 H2 fun b H3 =>
        if b = true then te σ2 H3 fun y H4 => ∃ acc, H4 D = some (.lst acc) ∧ acc.length < sizeLine ∧ Nx (upd H4 D (.lst (acc ++ [y]))) else Nx H3) := by
  intro D hD
  refine lc_it w (fun i H1 => Same H H1 ∧ ∃ As : List Addr, As.length = i ∧ As.Nodup ∧ D ∉ As ∧ (∀ b ∈ As, H b = none) ∧ H1 D = some (.lst (As.map V.ref)) ∧ ∀ (k : Nat) b, As[k]? = some b → H1 b = some (.lst (F k)))
    ⟨same_new hD, [], rfl, List.nodup_nil, List.not_mem_nil, fun b m => (by cases m), upd_same, fun k b e => (by simp at e)⟩ (fun i H1 _ h => hG H1 h.1) ?_ ?_
  · rintro i x H1 H2 hi ⟨s1, As, e0, nd, nD, hn, e1, al⟩ hx
    obtain ⟨e2, hF⟩ := hy i _ _ _ hi hx
    subst e2
    refine ⟨wipe1, ?_⟩
    refine r_yes ?_
    refine r_true (c := true) rfl ?_
    refine hs i x D _ hi hF s1 hD _ fun t H3 ht s3 et => ?_
    have htA : t ∉ As := fun m => by
      obtain ⟨k, hk, e⟩ := List.getElem_of_mem m
      have := al k t (by rw [List.getElem?_eq_getElem hk, e])
      rw [ht] at this; cases this
    have htD : t ≠ D := fun e => by rw [e, e1] at ht; cases ht
    have htH : H t = none := s1.free ht
    refine ⟨_, s3 _ _ e1, ?_, fun b o e => kpO (s3 _ _ (s1 b o e)) (ne_of_none e hD), As ++ [t], by rw [List.length_append, e0]; rfl, ?_, ?_, ?_, by rw [upd_same, List.map_append]; rfl, ?_⟩
    · rw [List.length_map, e0]; exact small_lt (by omega)
    · refine List.nodup_append.mpr ⟨nd, by simp, fun a ha b hb => ?_⟩
      rw [List.mem_singleton.mp hb]
      exact fun e => htA (e ▸ ha)
    · intro m
      rcases List.mem_append.mp m with m | m
      · exact nD m
      · exact htD (List.mem_singleton.mp m).symm
    · intro b m
      rcases List.mem_append.mp m with m | m
      · exact hn b m
      · rw [List.mem_singleton.mp m]; exact htH
    · intro k b e
      have nb : b ≠ D := fun eb => by
        rw [eb] at e
        rcases List.mem_append.mp (List.mem_of_getElem? e) with m | m
        · exact nD m
        · exact htD (List.mem_singleton.mp m).symm
      rw [upd_ne nb]
      by_cases hk : k < As.length
      · rw [List.getElem?_append_left hk] at e
        exact s3 _ _ (al k b e)
      · have h2 := (List.getElem?_eq_some_iff.mp e).1
        rw [List.length_append] at h2
        have h3 : k = As.length := by simp at h2; omega
        subst h3
        rw [List.getElem?_append_right (Nat.le_refl _), Nat.sub_self] at e
        cases e
        rw [e0]; exact et
  · rintro H1 ⟨s1, As, e0, nd, nD, hn, e1, al⟩
    exact hd D As H1 s1 hD e0 nd nD hn e1 al
/-- over what an expression gives -/
theorem lcOwn (hit : ∀ P : VK, P x H → te0 σ H P) (hx : Sk K H x xs) (F : Nat → List V) (few : xs.length ≤ 1000)
    (hs : ∀ i v D H1, i < xs.length → xs[i]? = some v → Same H H1 → H D = none → ∀ P : VK, (∀ t H2, H1 t = none → Same H1 H2 → H2 t = some (.lst (F i)) → P (.ref t) H2) → te ((σ.set j none).set j (some v)) H1 P)
    (hd : ∀ D (As : List Addr) H1, Same H H1 → H D = none → As.length = xs.length → As.Nodup → D ∉ As → (∀ b ∈ As, H b = none) → H1 D = some (.lst (As.map V.ref)) → (∀ (k : Nat) b, As[k]? = some b → H1 b = some (.lst (F k))) → Q (.ref D) H1) : tLc (fun σ H R => iList K te0 σ H R ∨ iTup K te0 σ H R) (gName j) tYes te [j] σ H Q := by
  obtain ⟨a, rfl, h | h⟩ := hx
  · exact .inl (hit _ ⟨a, rfl, ⟨xs, h⟩, lcOwnD walk_list (fun H' s => s.seq h) yat F few hs hd⟩)
  · exact .inr (hit _ ⟨a, rfl, ⟨xs, h⟩, lcOwnD walk_tup (fun H' s => Jv.Same.sqT s h) yat F few hs hd⟩)
theorem lcOwn2 {i : Nat} (hv : σ[i]? = some (some x)) (hx : Sk K H x xs) (F : Nat → List V) (few : xs.length ≤ 1000)
    (hs : ∀ i v D H1, i < xs.length → xs[i]? = some v → Same H H1 → H D = none → ∀ P : VK, (∀ t H2, H1 t = none → Same H1 H2 → H2 t = some (.lst (F i)) → P (.ref t) H2) → te ((σ.set j none).set j (some v)) H1 P)
    (hd : ∀ D (As : List Addr) H1, Same H H1 → H D = none → As.length = xs.length → As.Nodup → D ∉ As → (∀ b ∈ As, H b = none) → H1 D = some (.lst (As.map V.ref)) → (∀ (k : Nat) b, As[k]? = some b → H1 b = some (.lst (F k))) → Q (.ref D) H1) : tLc (fun σ H R => iList K (tVar i) σ H R ∨ iTup K (tVar i) σ H R) (gName j) tYes te [j] σ H Q :=
  lcOwn (fun P hP => ⟨_, hv, hP⟩) hx F few hs hd
end
/-- data, item by item -/
theorem dvAll_mk {K : PySem.W.Frag} {H : Hp} : ∀ {vs : List V} {ds : List PyData}, vs.length = ds.length → (∀ (i : Nat) v d, vs[i]? = some v → ds[i]? = some d → Dv K H v d) → DvAll K H vs ds
  | [], [], _, _ => .nil
  | v :: vs, d :: ds, hl, h => .cons (h 0 v d rfl rfl) (dvAll_mk (by simpa using hl) fun i v d h1 h2 => h (i + 1) v d h1 h2)
/-- what each item of a row of rows holds -/
theorem rows_of {K : PySem.W.Frag} {H : Hp} {vs : List V} {ds : List PyData} (h : DvAll K H vs ds) (hs : ∀ d ∈ ds, (seqD d).isSome = true) : ∃ F : Nat → List V, ∀ (i : Nat) v d, vs[i]? = some v → ds[i]? = some d → Sk K H v (F i) ∧ ∃ es, seqD d = some es ∧ DvAll K H (F i) es := by
  have h1 : ∀ i : Nat, ∃ X : List V, ∀ v d, vs[i]? = some v → ds[i]? = some d → Sk K H v X ∧ ∃ es, seqD d = some es ∧ DvAll K H X es := fun i => by
    cases e : vs[i]? with
    | none => exact ⟨[], fun v d h _ => by cases h⟩
    | some v =>
      obtain ⟨d, e2, hd⟩ := h.at e
      obtain ⟨es, e3⟩ := Option.isSome_iff_exists.mp (hs d (List.mem_of_getElem? e2))
      obtain ⟨X, k1, k2⟩ := hd.sk e3
      refine ⟨X, fun v' d' h1 h2 => ?_⟩
      cases h1
      rw [e2] at h2; cases h2
      exact ⟨k1, es, e3, k2⟩
  exact ⟨fun i => Classical.choose (h1 i), fun i => Classical.choose_spec (h1 i)⟩
end Jv

/-! ### several except clauses, some with a name -/
namespace Jv
open PySem PySem.Spec PyProof.Rows L2
/-- a suite with the exception's name at slot i -/
def sNamed (i : Nat) (ts : Addr → Value → Option Addr → TS) : Addr → Value → Option Addr → TS := fun e k d D τ H =>
  ts e k d { nx := fun ρ G => D.nx (ρ.set i none) G, rt := D.rt, bk := fun ρ G => D.bk (ρ.set i none) G, ct := fun ρ G => D.ct (ρ.set i none) G } (τ.set i (some (.ref e))) H
inductive Cls2 (X : Cx) : List ExceptHandler → List (Value × (Addr → Value → Option Addr → TS)) → Prop
  | nil : Cls2 X [] []
  | bare {nm : Str} {k : Value} {ts : Addr → Value → Option Addr → TS} {st : Stmt} {sts : List Stmt} {p1 p2 : Pos} {hl : List ExceptHandler} {wl : List (Value × (Addr → Value → Option Addr → TS))} (hk : Names X nm k)
      (su : ∀ (e : Addr) (ob : Obj) (kd : Value) (d : Option Addr) (pq : List (Addr × Obj)), Zc kd d ob → (∃ fs, ob.data = .fields fs) → PSs (X.suite e ((e, ob) :: pq)) (st :: sts) (ts e kd d)) (more : Cls2 X hl wl) :
      Cls2 X (.ExceptHandler (some (.Name nm p1)) none (st :: sts) p2 :: hl) ((k, ts) :: wl)
  | named {nm n : Str} {i : Nat} {k : Value} {ts : Addr → Value → Option Addr → TS} {st : Stmt} {sts : List Stmt} {p1 p2 : Pos} {hl : List ExceptHandler} {wl : List (Value × (Addr → Value → Option Addr → TS))} (nd : X.N.Nodup) (ix : X.N[i]? = some n) (lc : X.env.kindOf n = some .local) (hk : Names X nm k)
      (su : ∀ (e : Addr) (ob : Obj) (kd : Value) (d : Option Addr) (pq : List (Addr × Obj)), Zc kd d ob → (∃ fs, ob.data = .fields fs) → PSs (X.suite e ((e, ob) :: pq)) (st :: sts) (ts e kd d)) (more : Cls2 X hl wl) :
      Cls2 X (.ExceptHandler (some (.Name nm p1)) (some n) (st :: sts) p2 :: hl) ((k, sNamed i ts) :: wl)
section
variable {X : Cx} {body : List Stmt} {h1 : ExceptHandler} {hl : List ExceptHandler} {wl : List (Value × (Addr → Value → Option Addr → TS))} {pos : Pos} {tb : WX → TS} {Wo : WX}
theorem ps_tryMix (hst : X.stack = X.env :: X.outer) (hfr0 : X.env.frame = some X.env.locals) (tk : Takes X Wo) (hh : Cls2 X (h1 :: hl) wl)
    (hb : ∀ (W : WX) (pq : List (Addr × Obj)) (xe : Value → Shared → Prop), Takes (X.tr pq xe) W → PassesOwn (model X.prog X.w) X.A X.env xe → PSs (X.tr pq xe) body (tb W)) :
    PS X (.Try body (h1 :: hl) [] [] pos) (fun D τ H => tb (wMany X.K Wo D wl) D τ H) := by
  refine ⟨fun pins s τ H D I wish => ?_⟩
  have iok := I.ok
  have afr : X.A.frames = some (X.env :: X.outer) := by rw [iok.frames, hst]
  refine wpAny_Try_except ?_
  refine wpAny_mono ((hb (wMany X.K Wo D wl) (X.pn ++ pins) (fun u r1 => wpAny (model X.prog X.w) X.A (noteFrame u X.env) (fun _ r2 => wpAny (model X.prog X.w) X.A (setFlight u none) (fun _ r3 =>
    wpAny (model X.prog X.w) X.A (handleBy u X.env (h1 :: hl)) (SP X pins D) X.xe r3) X.xe r2) X.xe r1) (fun u t xx => ?_) PassesOwn.looking).run [] s τ H D (I.toTry _) wish) (fun f t hsp => ?_) (fun u t he => he)
  · obtain ⟨e, B, sI, pq, ρ, G, kd, d, rfl, J0, nb, up, sky0, ne, os, ag, w⟩ := xx
    have J : Inv X pins ρ G sI := J0.ofTry iok
    have sky : Sky B (X.env :: X.outer) e (Zc kd d) X.env.locals t.heap := by rw [← hst]; exact sky0
    show wpAny (model X.prog X.w) X.A (noteFrame (.ref e) X.env) _ _ _
    refine Sky.land Zc.steady afr hfr0 sky fun g3 fl3 up3 => ?_
    have J3 : Inv X pins ρ G { t with heap := g3 } := J.landed nb fl3.1 (up.trans up3) os ag
    obtain ⟨ob3, fs3, at3, z3, dt3⟩ := fl3.there
    have notIn : e ∉ frs (X.env :: X.outer) := fun m => by
      obtain ⟨_, ob, at', hn⟩ := fl3.2.2.1.mem m
      rw [at3] at at'; cases at'
      exact hn _ dt3
    have nLoc : e ≠ X.env.locals := fun z => notIn (List.mem_filterMap.mpr ⟨X.env, List.mem_cons_self, by rw [hfr0, z]⟩)
    have nFs : e ∉ X.fs := fun m => by
      obtain ⟨v, hv, q⟩ := List.mem_filterMap.mp m
      exact notIn (List.mem_filterMap.mpr ⟨v, List.mem_cons_of_mem _ hv, q⟩)
    have S3 := J3.suite at3 dt3 ne nLoc nFs
    have look : PySem.W.Looks (model X.prog X.w) g3 (typeOf (.ref e)) kd := fun A Q E r k q => wpAny_typeOf_ref (k _ _ at3) (by rw [z3.1]; exact q)
    have test : ∀ {nm : Str} {p1 : Pos} {k : Value} {Q : Value → Shared → Prop} {E : Value → Shared → Prop}, Names X nm k → Q k { t with heap := g3 } → wpAny (model X.prog X.w) (X.A.mark (some (.ref e))) (eval (.Name nm p1) X.env) Q E { t with heap := g3 } := fun {nm p1 k Q E} hk q => by
      obtain ⟨hg, hdb, hm | ⟨hm, hv, hnn⟩⟩ := hk
      · exact ld_glob (X := X.suite e ((e, ob3) :: (X.pn ++ pins))) S3 hg hm q hdb
      · exact ld_blt (X := X.suite e ((e, ob3) :: (X.pn ++ pins))) S3 hg hm hv q hnn hdb
    have all : ∀ {hl2 : List ExceptHandler} {wl2 : List (Value × (Addr → Value → Option Addr → TS))}, Cls2 X hl2 wl2 → wMany X.K Wo D wl2 kd d ρ G →
        wpAny (model X.prog X.w) X.A (handleBy (.ref e) X.env hl2) (SP X pins D) X.xe { t with heap := g3 } := by
      intro hl2 wl2 hc
      induction hc with
      | nil =>
        intro w
        refine wpAny_handleBy_nil ?_
        obtain ⟨k1, k2, k3, ob, fs, T, oT, us, he, hz, hd, hh1, hr⟩ := id fl3
        unfold PySem.passOn
        refine wpAny_bind (wpAny_field he hd hh1 ?_)
        rw [if_neg (show ¬ ((Value.ref T == Value.none) = true) from by simp)]
        have fin : wpAny (model X.prog X.w) X.A (setFlight (.ref e) X.env.frame) (fun _ r4 => wpAny (model X.prog X.w) X.A (throw (.ref e) : Sem Flow) (SP X pins D) X.xe r4) X.xe { t with heap := g3 } := by
          rw [hfr0]
          refine HandSPX.setFlight_upZ fl3 fun g4 hg4 up4 => wpAny_throw (tk _ _ ?_)
          exact ⟨e, B, sI, pins, ρ, G, kd, d, rfl, J, nb, (up.trans up3).trans up4, .inr (.inr (by rw [hst]; exact hg4)), ne, os, ag, w⟩
        first
          | exact wpAny_bind (wpAny_pure (wpAny_bind fin))
          | exact wpAny_bind fin
      | @bare nm k ts st sts p1 p2 hl3 wl3 hk su more ih =>
        intro w
        obtain ⟨b, hb1, yes, no⟩ := w
        refine wpAny_handleBy_cons (codeAny_handlers_test ?_) (by intro q; cases q)
        refine test hk ((PySem.W.exm_one (M := model X.prog X.w) (J3.kIn) look hb1).here ?_)
        cases b with
        | true =>
          refine codeAny_handlers_suite ?_
          refine HandSPX.lands_againZ fl3 fun g4 fl4 up4 => ?_
          have J4 : Inv X pins ρ G { t with heap := g4 } := J.landed nb fl4.1 ((up.trans up3).trans up4) os ag
          obtain ⟨ob4, fs4, at4, z4, dt4⟩ := fl4.there
          have S4 := J4.suite at4 dt4 ne nLoc nFs
          refine wpAny_mono ((su e ob4 kd d (X.pn ++ pins) z4 ⟨_, dt4⟩).run [] _ _ G _ S4 (yes rfl e ne)) (fun f r6 hsp => ?_) (fun _ _ z => False.elim z)
          cases f with
          | ret u =>
            obtain ⟨v6, τ6, G6, S6, rel6, q6⟩ := hsp
            exact ⟨_, _, _, S6.unsuite iok, rel6, q6⟩
          | _ =>
            obtain ⟨τ6, G6, S6, q6⟩ := hsp
            exact ⟨_, _, S6.unsuite iok, q6⟩
        | false =>
          show wpAny _ X.A (handleBy (.ref e) X.env hl3) _ _ _
          exact ih (no rfl)
      | @named nm n i k ts st sts p1 p2 hl3 wl3 nd ix lc hk su more ih =>
        intro w
        obtain ⟨b, hb1, yes, no⟩ := w
        refine wpAny_handleBy_cons (codeAny_handlers_test ?_) (by intro q; cases q)
        refine test hk ((PySem.W.exm_one (M := model X.prog X.w) (J3.kIn) look hb1).here ?_)
        cases b with
        | true =>
          refine codeAny_handlers_suite_as ?_
          refine HandSPX.lands_againZ fl3 fun g4 fl4 up4 => ?_
          have J4 : Inv X pins ρ G { t with heap := g4 } := J.landed nb fl4.1 ((up.trans up3).trans up4) os ag
          obtain ⟨ob4, fs4, at4, z4, dt4⟩ := fl4.there
          have S4 := J4.suite at4 dt4 ne nLoc nFs
          refine store_ok (X := X.suite e ((e, ob4) :: (X.pn ++ pins))) (v := .ref e) S4 nd ix (.inl lc) rfl (fun r5 S5 => ?_) (.inr lc)
          refine wpAny_mono ((su e ob4 kd d (X.pn ++ pins) z4 ⟨_, dt4⟩).run [] r5 _ G _ S5 (yes rfl e ne)) (fun f r6 hsp => ?_) (fun _ _ z => False.elim z)
          have goes : ∀ {τ6 : L2.St} {G6 : Hp} {Q : Shared → Prop}, Inv (X.suite e ((e, ob4) :: (X.pn ++ pins))) [] τ6 G6 r6 → (∀ r7, Inv X pins (τ6.set i none) G6 r7 → Q r7) →
              wpAny (model X.prog X.w) X.A (do bindName X.env n .none; unbindBehindTheSuite X.env n p2) (fun _ r7 => Q r7) X.xe r6 := fun {τ6 G6 Q} S6 hq => gone_ok (S6.unsuite iok) nd ix lc hq
          cases f with
          | ret u =>
            obtain ⟨v6, τ6, G6, S6, rel6, q6⟩ := hsp
            exact goes S6 fun r7 J7 => ⟨_, _, _, J7, rel6, q6⟩
          | _ =>
            obtain ⟨τ6, G6, S6, q6⟩ := hsp
            exact goes S6 fun r7 J7 => ⟨_, _, J7, q6⟩
        | false =>
          show wpAny _ X.A (handleBy (.ref e) X.env hl3) _ _ _
          exact ih (no rfl)
    exact all hh w
  · cases f with
    | next =>
      obtain ⟨ρ, G, J0, q⟩ := hsp
      exact wpAny_execs_nil ⟨ρ, G, J0.ofTry iok, q⟩
    | ret u =>
      obtain ⟨v, ρ, G, J0, rel, q⟩ := hsp
      exact ⟨v, ρ, G, J0.ofTry iok, rel, q⟩
    | _ =>
      obtain ⟨ρ, G, J0, q⟩ := hsp
      exact ⟨ρ, G, J0.ofTry iok, q⟩
end
end Jv

/-! ### trees of lists that are new: each list at its own place, so that one may change -/
namespace Jv
open PySem PySem.Spec PyProof.Rows L2
mutual
inductive Ft (K : PySem.W.Frag) (H : Hp) : V → PyData → List Addr → Prop
  | non : Ft K H .non .none []
  | bl (b : Bool) : Ft K H (.bl b) (.bool b) []
  | int (i : Int) : Ft K H (.int i) (.int i) []
  | str (x : Str) : Ft K H (.str x) (.str x) []
  | lst {a : Addr} {xs : List V} {ds : List PyData} {A : List Addr} : H a = some (.lst xs) → FtAll K H xs ds A → a ∉ A → Ft K H (.ref a) (.list ds) (a :: A)
inductive FtAll (K : PySem.W.Frag) (H : Hp) : List V → List PyData → List Addr → Prop
  | nil : FtAll K H [] [] []
  | cons {v : V} {vs : List V} {d : PyData} {ds : List PyData} {A B : List Addr} : Ft K H v d A → FtAll K H vs ds B → (∀ a ∈ A, a ∉ B) → FtAll K H (v :: vs) (d :: ds) (A ++ B)
end
mutual
theorem Ft.dv {K : PySem.W.Frag} {H : Hp} : ∀ {v : V} {d : PyData} {A : List Addr}, Ft K H v d A → Dv K H v d
  | _, _, _, .non => .non
  | _, _, _, .bl b => .bl b
  | _, _, _, .int i => .int i
  | _, _, _, .str x => .str x
  | _, _, _, .lst h q _ => .lst h (FtAll.dv q)
theorem FtAll.dv {K : PySem.W.Frag} {H : Hp} : ∀ {vs : List V} {ds : List PyData} {A : List Addr}, FtAll K H vs ds A → DvAll K H vs ds
  | _, _, _, .nil => .nil
  | _, _, _, .cons a b _ => .cons (Ft.dv a) (FtAll.dv b)
end
mutual
/-- what is kept at the tree's own places keeps the tree -/
theorem Ft.keep {K : PySem.W.Frag} {H H' : Hp} : ∀ {v : V} {d : PyData} {A : List Addr}, Ft K H v d A → (∀ a ∈ A, ∀ o, H a = some o → H' a = some o) → Ft K H' v d A
  | _, _, _, .non, _ => .non
  | _, _, _, .bl b, _ => .bl b
  | _, _, _, .int i, _ => .int i
  | _, _, _, .str x, _ => .str x
  | _, _, _, .lst h q n, s => .lst (s _ List.mem_cons_self _ h) (FtAll.keep q fun a m => s a (List.mem_cons_of_mem _ m)) n
theorem FtAll.keep {K : PySem.W.Frag} {H H' : Hp} : ∀ {vs : List V} {ds : List PyData} {A : List Addr}, FtAll K H vs ds A → (∀ a ∈ A, ∀ o, H a = some o → H' a = some o) → FtAll K H' vs ds A
  | _, _, _, .nil, _ => .nil
  | _, _, _, .cons a b n, s => .cons (Ft.keep a fun c m => s c (List.mem_append_left _ m)) (FtAll.keep b fun c m => s c (List.mem_append_right _ m)) n
end
section
variable {K : PySem.W.Frag} {H H' : Hp}
theorem FtAll.ints : ∀ ns : List Int, FtAll K H (ns.map V.int) (ns.map PyData.int) []
  | [] => .nil
  | a :: r => by
    have h := FtAll.cons (A := []) (B := []) (Ft.int (K := K) (H := H) a) (FtAll.ints r) (fun _ m => nomatch m)
    exact h
theorem FtAll.app : ∀ {vs ws : List V} {ds es : List PyData} {A B : List Addr}, FtAll K H vs ds A → FtAll K H ws es B → (∀ a ∈ A, a ∉ B) → FtAll K H (vs ++ ws) (ds ++ es) (A ++ B)
  | _, _, _, _, _, _, .nil, q, _ => q
  | _, ws, _, es, _, B, .cons (A := A1) (B := B1) a b n, q, dj => by
    rw [List.cons_append, List.cons_append, List.append_assoc]
    refine .cons a (FtAll.app b q fun c m => dj c (List.mem_append_right _ m)) fun c m => ?_
    intro m2
    rcases List.mem_append.mp m2 with h | h
    · exact n c m h
    · exact dj c (List.mem_append_left _ m) h
theorem FtAll.len : ∀ {vs : List V} {ds : List PyData} {A : List Addr}, FtAll K H vs ds A → vs.length = ds.length
  | _, _, _, .nil => rfl
  | _, _, _, .cons _ b _ => congrArg (· + 1) (FtAll.len b)
/-- one of them, and what a change within it makes of all -/
theorem FtAll.chg : ∀ {vs : List V} {ds : List PyData} {A : List Addr} {i : Nat} {v : V}, FtAll K H vs ds A → vs[i]? = some v → ∃ d B, ds[i]? = some d ∧ Ft K H v d B ∧ (∀ a ∈ B, a ∈ A) ∧
    (∀ w e H', (∀ a ∈ A, a ∉ B → ∀ o, H a = some o → H' a = some o) → Dv K H' w e → DvAll K H' (vs.set i w) (ds.set i e))
  | _, _, _, _, _, .nil, e => by simp at e
  | _, _, _, 0, v, .cons (A := A1) (B := B1) a b n, e => by
    simp at e; subst e
    refine ⟨_, A1, rfl, a, fun c m => List.mem_append_left _ m, fun w e H' s dv => ?_⟩
    exact .cons dv (b.keep fun c m => s c (List.mem_append_right _ m) fun m2 => n c m2 m).dv
  | _, _, _, i + 1, v, .cons (A := A1) (B := B1) a b n, e => by
    simp at e
    obtain ⟨d, B, h1, h2, h3, h4⟩ := FtAll.chg b e
    refine ⟨d, B, h1, h2, fun c m => List.mem_append_right _ (h3 c m), fun w e H' s dv => ?_⟩
    refine .cons (a.keep fun c m => s c (List.mem_append_left _ m) fun m2 => n c m (h3 c m2)).dv (h4 w e H' (fun c m m2 => s c (List.mem_append_right _ m) m2) dv)
mutual
theorem Ft.held : ∀ {v : V} {d : PyData} {A : List Addr}, Ft K H v d A → ∀ a ∈ A, ∃ xs, H a = some (.lst xs)
  | _, _, _, .lst h q _, a, m => by
    rcases List.mem_cons.mp m with rfl | m
    · exact ⟨_, h⟩
    · exact FtAll.held q a m
theorem FtAll.held : ∀ {vs : List V} {ds : List PyData} {A : List Addr}, FtAll K H vs ds A → ∀ a ∈ A, ∃ xs, H a = some (.lst xs)
  | _, _, _, .cons x y _, a, m => by
    rcases List.mem_append.mp m with m | m
    · exact Ft.held x a m
    · exact FtAll.held y a m
end
theorem Ft.same {v : V} {d : PyData} {A : List Addr} (h : Ft K H v d A) (s : Same H H') : Ft K H' v d A := h.keep fun a _ o e => s a o e
end
section
variable {K : PySem.W.Frag} {σ : L2.St} {H : Hp} {te te0 : TE} {Q : VK} {xs : List V} {es : List PyData} {j i n : Nat} {x : V} {J : It} {G : Hp → Prop} {Y : Nat → Hp → V → Hp → Prop} {F : Nat → V → Prop}
theorem lcNew (w : Walk J n G Y) (hG : ∀ H', Same H H' → G H') (hy : ∀ i H x H', i < n → Y i H x H' → H' = H ∧ F i x) (es : List PyData) (hl : es.length = n) (few : n ≤ 1000)
    (hs : ∀ i v e D H1, i < n → F i v → es[i]? = some e → Same H H1 → H D = none → (∃ o, H1 D = some o) → ∀ P : VK, (∀ y A H2, Same H1 H2 → Ft K H2 y e A → (∀ a ∈ A, H1 a = none) → P y H2) → te ((σ.set j none).set j (some v)) H1 P)
    (hd : ∀ D A H1, Same H H1 → Ft K H1 (.ref D) (.list es) A → (∀ a ∈ A, H a = none) → Q (.ref D) H1) : ∀ D, H D = none → ∃ W : Nat → Nat → Hp → Prop, (∃ m, W 0 m (upd H D (.lst []))) ∧ ∀ i m H, W i m H →
      (J.stop i H ∧ Q (.ref D) H) ∨ (J.go i H ∧ ∃ Nx : Hp → Prop, (∀ H', Nx H' → ∃ m', m' < m ∧ W (i + 1) m' H') ∧ ∀ x H', J.yld i H x H' → gName j x (wipe σ [j]) H' fun σ2 H2 => wipe σ2 [j] = wipe σ [j] ∧ tYes σ2 H2 fun b H3 =>
        if b = true then te σ2 H3 fun y H4 => ∃ acc, H4 D = some (.lst acc) ∧ acc.length < sizeLine ∧ Nx (upd H4 D (.lst (acc ++ [y]))) else Nx H3) := by
  intro D hD
  refine lc_it w (fun i H1 => Same H H1 ∧ ∃ ys A, H1 D = some (.lst ys) ∧ FtAll K H1 ys (es.take i) A ∧ ∀ a ∈ A, H a = none ∧ a ≠ D) ⟨same_new hD, [], [], upd_same, .nil, fun _ m => nomatch m⟩ (fun i H1 _ h => hG H1 h.1) ?_ ?_
  · rintro i x H1 H2 hi ⟨s1, ys, A, e1, al, fr⟩ hx
    obtain ⟨e0, hF⟩ := hy i _ _ _ hi hx
    subst e0
    refine ⟨wipe1, ?_⟩
    refine r_yes ?_
    refine r_true (c := true) rfl ?_
    have hie : i < es.length := by omega
    have he := List.getElem?_eq_getElem hie
    refine hs i x _ D _ hi hF he s1 hD ⟨_, e1⟩ _ fun y B H3 s3 dy nB => ⟨_, s3 _ _ e1, ?_, ?_, _, A ++ B, upd_same, ?_, ?_⟩
    · rw [al.len, List.length_take]; exact small_lt (by omega)
    · intro b o e; exact kpO (s3 _ _ (s1 b o e)) (ne_of_none e hD)
    · rw [take_more he]
      have nD : ∀ a ∈ B, a ≠ D := fun a m z => by have := nB a m; rw [z, e1] at this; cases this
      have q : FtAll K (upd H3 D (.lst (ys ++ [y]))) [y] [es[i]] B := by
        have q2 : Ft K (upd H3 D (.lst (ys ++ [y]))) y es[i] B := dy.keep fun a m o e => kpO e (nD a m)
        have q3 := FtAll.cons q2 (FtAll.nil (K := K)) (fun a _ => by simp)
        rw [List.append_nil] at q3
        exact q3
      refine FtAll.app (al.keep fun a m o e => kpO (s3 _ _ e) (fr a m).2) q fun a m m2 => ?_
      obtain ⟨zs, hz⟩ := al.held a m
      rw [nB a m2] at hz; cases hz
    · intro a m
      rcases List.mem_append.mp m with m | m
      · exact fr a m
      · have h1 := nB a m
        refine ⟨?_, fun z => by rw [z, e1] at h1; cases h1⟩
        cases e : H a with
        | none => rfl
        | some o => rw [s1 a o e] at h1; cases h1
  · rintro H1 ⟨s1, ys, A, e1, al, fr⟩
    rw [List.take_of_length_le (by omega)] at al
    exact hd D (D :: A) H1 s1 (.lst e1 al fun m => (fr D m).2 rfl) fun a m => by
      rcases List.mem_cons.mp m with rfl | m
      · exact hD
      · exact (fr a m).1
theorem lcNew2 (hv : σ[i]? = some (some x)) (hx : Sk K H x xs) (es : List PyData) (hl : es.length = xs.length) (few : xs.length ≤ 1000)
    (hs : ∀ i v e D H1, i < xs.length → xs[i]? = some v → es[i]? = some e → Same H H1 → H D = none → (∃ o, H1 D = some o) → ∀ P : VK, (∀ y A H2, Same H1 H2 → Ft K H2 y e A → (∀ a ∈ A, H1 a = none) → P y H2) → te ((σ.set j none).set j (some v)) H1 P)
    (hd : ∀ D A H1, Same H H1 → Ft K H1 (.ref D) (.list es) A → (∀ a ∈ A, H a = none) → Q (.ref D) H1) : tLc (fun σ H R => iList K (tVar i) σ H R ∨ iTup K (tVar i) σ H R) (gName j) tYes te [j] σ H Q := by
  obtain ⟨a, rfl, h | h⟩ := hx
  · exact .inl ⟨_, hv, a, rfl, ⟨xs, h⟩, lcNew walk_list (fun H' s => s.seq h) yat es hl few hs hd⟩
  · exact .inr ⟨_, hv, a, rfl, ⟨xs, h⟩, lcNew walk_tup (fun H' s => Jv.Same.sqT s h) yat es hl few hs hd⟩
end
section
variable {K : PySem.W.Frag} {g : TG} {tb : TS} {D : Ends} {σ : L2.St} {H : Hp} {xs : List V} {x : V} {i : Nat}
/-- a loop over a name that holds a list or a tuple that stays -/
theorem for_sk (hv : σ[i]? = some (some x)) (hx : Sk K H x xs) (Pv : Nat → L2.St → Hp → Prop) (h0 : Pv 0 σ H) (hl : ∀ j σ' H', Pv j σ' H' → Same H H')
    (hs : ∀ j v σ' H', xs[j]? = some v → Pv j σ' H' → g v σ' H' fun σ2 H2 => tb { D with nx := Pv (j + 1), ct := Pv (j + 1), bk := D.nx } σ2 H2) (hd : ∀ σ' H', Pv xs.length σ' H' → D.nx σ' H') :
    iList K (tVar i) σ H (fun it H1 => ∃ W : Nat → Nat → L2.St → Hp → Prop, (∃ m, W 0 m σ H1) ∧ ∀ i m σ H, W i m σ H →
      (it.stop i H ∧ D.nx σ H) ∨ (it.go i H ∧ ∃ N : L2.St → Hp → Prop, (∀ σ' H', N σ' H' → ∃ m', m' < m ∧ W (i + 1) m' σ' H') ∧ ∀ x H', it.yld i H x H' → g x σ H' fun σ2 H2 => tb { D with nx := N, ct := N, bk := D.nx } σ2 H2)) ∨
    iTup K (tVar i) σ H (fun it H1 => ∃ W : Nat → Nat → L2.St → Hp → Prop, (∃ m, W 0 m σ H1) ∧ ∀ i m σ H, W i m σ H →
      (it.stop i H ∧ D.nx σ H) ∨ (it.go i H ∧ ∃ N : L2.St → Hp → Prop, (∀ σ' H', N σ' H' → ∃ m', m' < m ∧ W (i + 1) m' σ' H') ∧ ∀ x H', it.yld i H x H' → g x σ H' fun σ2 H2 => tb { D with nx := N, ct := N, bk := D.nx } σ2 H2)) := by
  obtain ⟨a, rfl, h | h⟩ := hx
  · exact .inl ⟨_, hv, a, rfl, ⟨xs, h⟩, for_list (xs := xs) Pv h0 (fun j σ' H' _ p => (hl j σ' H' p).seq h) hs hd⟩
  · exact .inr ⟨_, hv, a, rfl, ⟨xs, h⟩, for_tup (xs := xs) Pv h0 (fun j σ' H' _ p => Jv.Same.sqT (hl j σ' H' p) h) hs hd⟩
end
section
variable {K : PySem.W.Frag} {g : TG} {tb : TS} {D : Ends} {σ : L2.St} {H H0 : Hp} {xs : List V} {x : V} {i : Nat}
/-- the same with the sequence in an earlier heap -/
theorem for_sk0 (hv : σ[i]? = some (some x)) (hx : Sk K H0 x xs) (s0 : Same H0 H) (Pv : Nat → L2.St → Hp → Prop) (h0 : Pv 0 σ H) (hl : ∀ j σ' H', Pv j σ' H' → Same H0 H')
    (hs : ∀ j v σ' H', xs[j]? = some v → Pv j σ' H' → g v σ' H' fun σ2 H2 => tb { D with nx := Pv (j + 1), ct := Pv (j + 1), bk := D.nx } σ2 H2) (hd : ∀ σ' H', Pv xs.length σ' H' → D.nx σ' H') :
    iList K (tVar i) σ H (fun it H1 => ∃ W : Nat → Nat → L2.St → Hp → Prop, (∃ m, W 0 m σ H1) ∧ ∀ i m σ H, W i m σ H →
      (it.stop i H ∧ D.nx σ H) ∨ (it.go i H ∧ ∃ N : L2.St → Hp → Prop, (∀ σ' H', N σ' H' → ∃ m', m' < m ∧ W (i + 1) m' σ' H') ∧ ∀ x H', it.yld i H x H' → g x σ H' fun σ2 H2 => tb { D with nx := N, ct := N, bk := D.nx } σ2 H2)) ∨
    iTup K (tVar i) σ H (fun it H1 => ∃ W : Nat → Nat → L2.St → Hp → Prop, (∃ m, W 0 m σ H1) ∧ ∀ i m σ H, W i m σ H →
      (it.stop i H ∧ D.nx σ H) ∨ (it.go i H ∧ ∃ N : L2.St → Hp → Prop, (∀ σ' H', N σ' H' → ∃ m', m' < m ∧ W (i + 1) m' σ' H') ∧ ∀ x H', it.yld i H x H' → g x σ H' fun σ2 H2 => tb { D with nx := N, ct := N, bk := D.nx } σ2 H2)) := by
  obtain ⟨a, rfl, h | h⟩ := hx
  · exact .inl ⟨_, hv, a, rfl, ⟨xs, s0.seq h⟩, for_list (xs := xs) Pv h0 (fun j σ' H' _ p => (hl j σ' H' p).seq h) hs hd⟩
  · exact .inr ⟨_, hv, a, rfl, ⟨xs, Jv.Same.sqT s0 h⟩, for_tup (xs := xs) Pv h0 (fun j σ' H' _ p => Jv.Same.sqT (hl j σ' H' p) h) hs hd⟩
end
/-- a tree without lists needs no list -/
theorem sqT_hide {K : PySem.W.Frag} {H : Hp} {N : List Addr} (hN : ∀ b ∈ N, ∃ ys, H b = some (.lst ys)) {a : Addr} {xs : List V} (h : SqT K H a xs) : SqT K (hide N H) a xs := by
  rcases h with (h | ⟨o, h⟩) | h
  · exact .inl (.inl (hide_at (fun m => by obtain ⟨ys, e⟩ := hN a m; rw [h] at e; cases e) h))
  · exact .inl (.inr ⟨o, hide_at (fun m => by obtain ⟨ys, e⟩ := hN a m; rw [h] at e; cases e) h⟩)
  · exact .inr h
theorem DvAll.imp {K : PySem.W.Frag} {H H' : Hp} : ∀ {vs : List V} {ds : List PyData}, DvAll K H vs ds → (∀ v d, d ∈ ds → Dv K H v d → Dv K H' v d) → DvAll K H' vs ds
  | _, _, .nil, _ => .nil
  | _, _, .cons a b, f => .cons (f _ _ List.mem_cons_self a) (DvAll.imp b fun v d m => f v d (List.mem_cons_of_mem _ m))
end Jv

/-! ### repr of a container: where no text of a container is under way (guards known) -/
namespace Jv
open PySem PySem.Spec PyProof.Rows L2
/-- a def's promise where no text of a container is under way -/
structure FnG (P : Program) (w : World) (K : PySem.W.Frag) (mg : Str → Option Value) (base : Heap) (CX : CXT) (k : Nat) (f : Addr) (fd : FuncData) (ps : List Str) (sp : Sp) : Prop where
  long : ∀ vs H Q E, sp vs H Q E → vs.length = ps.length
  goes : ∀ A outer s H args us vs Q E, A.guards = some [] → Room k A →
    Env0 P w K mg base A outer s H → BindsTo s fd args (ps.zip us) → Vals vs us → sp vs H Q E →
      codeAny (model P w) A (.call (.ref f) args) (CR CX outer P w H s Q E) s
section
variable {P : Program} {w : World} {K : PySem.W.Frag} {mg : Str → Option Value} {base : Heap} {CX : CXT} {k : Nat} {f : Addr} {fd : FuncData} {ps : List Str} {sp : Sp}
theorem FnG.of (F : FnOk P w K mg base CX k f fd ps sp) : FnG P w K mg base CX k f fd ps sp := ⟨F.len, fun A o s H a us vs Q E _ => F.run A o s H a us vs Q E⟩
/-- a def whose body may ask for the text of a container -/
theorem fun_okG {x qual : Str} {st : Stmt} {N : List Str} (F : Fun K x qual st f fd) (S : FnScope N ps (defScope st)) (hl : ∀ vs H Q E, sp vs H Q E → vs.length = ps.length)
    (body : ∀ (cdv : Value) (A : Around) (outer : List Env) (s : Shared) (H : Hp) (vs : List V) (Q : VK) (E : XK), A.guards = some [] → Room k (A.deeper (envOfC qual (defScope st) s.heap.objs.size f cdv)) → sp vs H Q E →
      ∃ t, PSs (cxOf CX0 P w K mg base N qual (defScope st) f cdv A outer s H E).nox (defBody st) t ∧ t { nx := fun _ H' => Q .non H', rt := Q } (start N vs) H) : FnG P w K mg base CX0 (k + 1) f fd ps sp := by
  obtain ⟨c1, c2, c3, c4, c5, c6, c7, c8, c9, rfl, here, rec⟩ := F.ex
  refine ⟨hl, fun A outer s H args us vs Q E gd room e0 bd rv hs => ?_⟩
  have up : ∀ b o, base.get? b = some o → s.heap.get? b = some o := fun b o q => (e0.bs b o q).1
  have kin : K.In s.heap := e0.mod.kin.keeps up
  refine codeAny_call_function room.depth (kin _ _ here) rfl S.co S.gen rfl (PySem.W.codeRec_of kin rec) (bd _ _ _ _ ?_)
  refine wpAny_newFunctionEnv_cells S.kind (fun y hy => ?_) fun env he s1 inC => ?_
  · rcases S.par y.1 (List.of_mem_zip (show (y.1, y.2) ∈ _ from hy)).1 with q | q
    · exact Or.inl q
    · exact Or.inr ⟨q, PySem.W.cellsFrom_some _ _ _ (Or.inl q)⟩
  cases he
  refine ⟨(e0.mod.nolimit.keeps up).keeps inC.toInCall.keep, codeAny_func ?_⟩
  obtain ⟨t, pt, q⟩ := body c7 A outer s H vs Q E gd (room.deeper _) hs
  refine wpAny_mono (pt.nox.run [] s1 _ H _ (inv_start S room.hd e0 (hl _ _ _ _ hs) rv inC) q) (fun fl s' z => ?_) fun _ _ z => z
  have done : ∀ (σ' : L2.St) (H' : Hp) (v : V) (u : Value), Inv (cxOf CX0 P w K mg base N qual (defScope st) f c7 A outer s H E) [] σ' H' s' → RelV v u → Q v H' → CE outer P w H s Q u s' :=
    fun σ' H' v u J r q => ⟨v, H', J.os, J.bare, J.base, J.hok, r, q⟩
  cases fl
  case ret u => exact let ⟨v, σ', H', J, r, q⟩ := z; done σ' H' v u J r q
  case next => exact let ⟨σ', H', J, q⟩ := z; done σ' H' .non .none J rfl q
  case brk => exact let ⟨_, _, _, q⟩ := z; (q : False).elim
  case cont => exact let ⟨_, _, _, q⟩ := z; (q : False).elim
end
/-! ### the text of a container -/
def rRepr (K : PySem.W.Frag) : List V → Hp → VK → Prop := fun xs H Q => ∃ a d, xs = [.ref a] ∧ Dp K H (.ref a) d ∧ d.canLay0 = true ∧ d.depth ≤ 60 ∧ d.showable = true ∧ d.shown.length ≤ sizeLine ∧ Q (.str d.shown) H
theorem call_repr {X : Cx} (hg : X.A.guards = some []) (hu : X.A.units + 64 < cLine) : CallR X (.builtin "repr") (rRepr X.K) := by
  intro pins s σ H xs us Q I r h
  obtain ⟨a, d, rfl, dp, c1, c2, c3, c4, q⟩ := h
  obtain ⟨u, rfl, ru⟩ := r.one
  cases (show u = Value.ref a from ru)
  obtain ⟨as, rd⟩ := Dp.reads I d (.ref a) (.ref a) dp rfl
  refine repr_of_reads' rd c3 (fun z => by rw [PyData.hasDict_of_canLay d c1] at z; cases z) hg (by omega) (fun _ _ e => e) (fun h' u tk k => ?_) c4
  exact ⟨.str d.shown, H, I.kept (t' := tk) k, ⟨_, rfl⟩, q⟩
theorem gd_body {CX : CXT} {P : Program} {w : World} {K : PySem.W.Frag} {mg : Str → Option Value} {base : Heap} {N : List Str} {qual : Str} {scope : Scope} {f : Addr} {cd : Value} {A : Around} {outer : List Env} {s : Shared} {H : Hp} {E : XK} (h : A.guards = some []) :
    (cxOf CX P w K mg base N qual scope f cd A outer s H E).nox.A.guards = some [] := h
/-! ### the end of a law whose def asks for the text of a container -/
section
variable {P : Program} {w : World} {K : PySem.W.Frag} {mg mb : Str → Option Value} {CX : CXT} {k : Nat} {fa a : Addr} {fd : FuncData} {x : Str} {sp : Sp} {z : Shared} {vs : List Value} {ns : List Int}
theorem lawG (kin : K.In z.heap) (gl : z.heap.Ns mainGlobals mg) (bi : z.heap.Ns builtinsNs mb) (bb : ∀ y : Str, y ≠ "__name__" → mb y = bootBuiltins y) (nl : z.heap.NoLimit) (gn : z.gens = #[])
    (ea : z.heap.get? a = some { cls := .type "list", data := .seq vs.toArray }) (hi : IntsAre vs ns) (few : ns.length ≤ sizeLine) (room : Room k callerA)
    (F : ∀ base : Heap, K.In base → base.Ns mainGlobals mg → FnG P w K mg base CX k fa fd [x] sp) (bd : ∀ (s : Shared) (u : Value), BindsTo s fd ⟨[u], []⟩ [(x, u)])
    (says : ∀ H : Hp, Only H → SqL K H a (ns.map V.int) → sp [.ref a] H (fun v _ => v = .bl true) fun _ _ _ => False) (quiet : ∀ H e s', CX [] H z (fun _ _ _ => False) e s' → False) :
    codeAny (model P w) callerA (.call (.ref fa) ⟨[.ref a], []⟩) (fun r s' => r = .ok (.ret (.bool true)) ∧ OldK z.heap s'.heap ∧ s'.os = z.os ∧ AllBare s'.gens) z := by
  -- H tracks the script at most, and that only where it is none of the module's objects
  have main : ∀ H : Hp, Only H → (∀ b, ¬ H b = none → b = a ∧ K.lookup a = none) → SqL K H a (ns.map V.int) → HOk P w H z.heap →
      codeAny (model P w) callerA (.call (.ref fa) ⟨[.ref a], []⟩) (fun r s' => r = .ok (.ret (.bool true)) ∧ OldK z.heap s'.heap ∧ s'.os = z.os ∧ AllBare s'.gens) z := fun H only tr sq ok => by
    have dictOff : ∀ {b : Addr} {o : Obj} {es : Array DictEntry} {n : Nat}, z.heap.get? b = some o → o.data = .dict es n → H b = none := fun {b o es n} e d =>
      Classical.byContradiction fun t => by
        obtain ⟨rfl, _⟩ := tr b t
        rw [ea] at e
        cases e
        exact nomatch (show Data.seq vs.toArray _ = Data.dict es n from d)
    have spaces : ∀ {b : Addr} {m : Str → Option Value}, z.heap.Ns b m → (hidT z.heap H).Ns b m := fun q => by
      obtain ⟨o, es, n, e, d, r⟩ := q
      exact ⟨o, es, n, hidT_get e (dictOff e d), d, r⟩
    have own : K.In (hidT z.heap H) := fun b o q => hidT_get (kin b o q) (Classical.byContradiction fun t => by
      obtain ⟨rfl, n⟩ := tr b t
      rw [n] at q
      cases q)
    obtain ⟨ml, l1, l2⟩ := nl
    have start : Env0 P w K mg (hidT z.heap H) callerA [] z H :=
      { frames := rfl, mod := ⟨own, spaces gl, ⟨mb, spaces bi, bb⟩, ml, spaces l1, l2⟩, bs := fun _ _ q => of_hidT q, bsz := Nat.le_of_eq (hidT_size _ _), funs := trivial,
        frf := fun b q => (List.not_mem_nil q).elim, hok := ok, bare := .of_eq gn }
    refine codeAny_mono ((F _ own (spaces gl)).goes callerA [] z H ⟨[.ref a], []⟩ [.ref a] [.ref a] _ _ rfl room start (bd z (.ref a)) (.cons rfl .nil) (says H only sq)) fun r s' q => ?_
    match r, q with
    | .error e, q => exact (quiet H e s' q).elim
    | .ok .next, q => exact False.elim q
    | .ok .brk, q => exact False.elim q
    | .ok .cont, q => exact False.elim q
    | .ok (.ret u), q =>
      obtain ⟨v, H', os, bare, un, ok', rv, (rfl : v = .bl true)⟩ := q
      obtain rfl : u = Value.bool true := rv
      refine ⟨rfl, OldK.of_keep fun b o e => ?_, os, bare⟩
      rcases only b with n | ⟨ob, xs, t⟩
      · exact un.keep b o e n (fun m => (List.not_mem_nil m).elim) List.not_mem_nil
      · obtain ⟨h1, _⟩ := ok b _ t
        obtain ⟨h2, _⟩ := ok' b _ (un.frzs b ob _ t)
        rw [e] at h1
        cases h1
        exact h2
  have rv := vals_ints hi
  have nv := hi.length
  by_cases hk : K.lookup a = none
  · obtain ⟨S, hS⟩ : ∃ S : Hp, S = fun b => if b = a then some (HO.frz { cls := .type "list", data := .seq vs.toArray } (.lst (ns.map V.int))) else none := ⟨_, rfl⟩
    have seen : S a = some (.frz { cls := .type "list", data := .seq vs.toArray } (.lst (ns.map V.int))) := by rw [hS]; exact if_pos rfl
    have other : ∀ b, b ≠ a → S b = none := fun b e => by rw [hS]; exact if_neg e
    clear hS
    refine main S (fun b => ?_) (fun b t => ?_) (.inl (.inr ⟨_, seen⟩)) (fun b u t => ?_)
    · by_cases e : b = a
      · exact .inr ⟨_, _, by rw [e]; exact seen⟩
      · exact .inl (other b e)
    · exact ⟨Classical.byContradiction fun e => t (other b e), hk⟩
    · by_cases e : b = a
      · subst e
        rw [seen] at t
        cases t
        exact ⟨ea, by rw [List.length_map]; exact few, vs, _, rv, ea⟩
      · exact nomatch (other b e).symm.trans t
  · obtain ⟨o, q⟩ := Option.ne_none_iff_exists'.mp hk
    have e := kin a o q
    rw [ea] at e
    cases e
    exact main (fun _ => none) (fun _ => .inl rfl) (fun _ t => (t rfl).elim) (.inr ⟨_, vs.toArray, _, q, rfl, rfl, rfl, by rw [List.size_toArray, nv]; exact few, by simpa using rv⟩) fun _ _ t => nomatch (show (none : Option HO) = some _ from t)
end
theorem walkG {l : PySem.W.OpenLaw} {n k : Nat} {q : Program} {loose : List Str} {XP : (Str → Option Value) → Heap → Prop} {YP : World → Heap → Prop} {d : DefRec} {K : Params → PySem.W.Frag} {sp : World → Sp} {x : Str}
    (h1 : l.most = some n) (h2 : n ≤ sizeLine) (h3 : d.params.defaults = []) (h4 : Room k callerA) (h5 : ∀ (w : World) (h : Heap), YP w h → (K w.params).In h)
    (F : ∀ (w : World) (mg : Str → Option Value) (fa : Addr) (h : Heap), (K w.params).In h → h.Ns mainGlobals mg → mg d.name = some (.ref fa) → ∃ fd : FuncData, (∀ (s : Shared) (u : Value), BindsTo s fd ⟨[u], []⟩ [(x, u)]) ∧
      ∀ base : Heap, (K w.params).In base → base.Ns mainGlobals mg → FnG l.prog w (K w.params) mg base CX0 k fa fd [x] (sp w))
    (says : ∀ (w : World) (H : Hp) (a : Addr) (ns : List Int), ns.length ≤ n → Only H → SqL (K w.params) H a (ns.map V.int) → sp w [.ref a] H (fun v _ => v = .bl true) fun _ _ _ => False)
    (quiet : ∀ (w : World) (H : Hp) (s : Shared) (e : Value) (s' : Shared), CX0 [] H s (fun _ _ _ => False) e s' → False) :
    PySem.W.WalkO q loose XP YP l.row.toRowW d [] (fun f vs => PySem.call f vs) :=
  Att.attach_call h1 h3 fun w s₀ s₁ mg mb fa o pm cd doc a vs ns G Y ho hd hcd hmg hobj hints hlen hg => by
    obtain ⟨fd, bd, hF⟩ := F w mg fa _ (h5 w _ Y) G.T.g hmg
    exact lawG (h5 w _ Y) G.T.g G.T.b G.T.builtins G.T.nolimit hg hobj hints (Nat.le_trans hlen h2) h4 hF bd (fun H only sq => says w H a ns hlen only sq) fun H e s' => quiet w H s₁ e s'
end Jv

/-! ### == and != of an instance whose class has its own __eq__: any answer, against an instance or a tuple -/
namespace Jv
open PySem PySem.Spec PyProof.Rows L2
section
variable {prog : Program} {w : World} {A : Around} {E : Value → Shared → Prop} {s : Shared} {K : PySem.W.Frag} {x C L f : Addr} {h₀ : Heap} {m : Str → Option Value} {ox : Obj} {od : Option Obj} {b tb : Value}
theorem ifBoundB {M : Model} {name : Str} {id : String} {args : List Value} {Q : Option Value → Shared → Prop} (X : K.In s.heap) (I : PySem.W.InstAt s.heap x ox C od) (hs : PySem.W.findIn K (.ref C) name = some (some (.builtin id)))
    (hb : ∀ self, bindSpecial (.builtin id) self = pure (.builtin id, [self])) (h : wpAny M A (call (.builtin id) (.ref x :: args)) (fun v => Q (some v)) E s) : wpAny M A (callSpecialIfBound? (.ref x) name args) Q E s := by
  simp only [callSpecialIfBound?, bindSpecialIfBound?]
  refine wpAny_holding (wpAny_bind (wpAny_bind (wpAny_bind (I.type.here ((PySem.W.looks_findIn X hs).here ?_)))))
  refine wpAny_bind (wpAny_askSetting (wpAny_ite ?_))
  have fin : wpAny M A (call (.builtin id) ([.ref x] ++ args) >>= fun v => pure (some v)) Q E s := wpAny_bind (wpAny_mono h (fun v s' h' => wpAny_pure h') fun _ _ h' => h')
  simp only [hb]
  split
  · exact wpAny_bind (wpAny_pure (wpAny_pure (by exact fin)))
  · exact wpAny_tryCatch (wpAny_bind (wpAny_pure (wpAny_pure (by exact fin))))
/-- object.__ne__ asks __eq__ and turns its answer round -/
theorem obj_ne {Q : Value → Shared → Prop} (hu : A.in1.units < cLine) (X : K.In s.heap) (I : PySem.W.InstAt s.heap x ox C od) (hm : PySem.W.mroIn K C (.type "object") = some true) (hr : PySem.W.findIn K (.ref C) "__eq__" = some (some (.ref f))) (hf : PySem.W.isFn K (.ref f) = true)
    (h : wpAny (model prog w) A.in1 (call (.ref f) [.ref x, b]) (fun v s' => ∃ r, v = .bool r ∧ Q (.bool (!r)) s') E s) : wpAny (model prog w) A (call (.builtin "object.__ne__") [.ref x, b]) Q E s := by
  refine wpAny_call (codeAny_call_builtin PySem.F.slot_object_ne.plain PySem.F.entry_object_ne (PySem.W.check_slot (i := "object.__ne__") (owner := "object") (n := "__ne__") PySem.F.cmpKind_ne PySem.F.cmpSplit_ne (I.type.andThen (PySem.W.looks_mroIn X hm)) (PySem.F.cmpArgs_ne _ _) ?_))
  unfold Builtin.«object.__ne__»
  refine wpAny_bind (m := slotArgs "__ne__" 1 _) (wpAny_pure ?_)
  show wpAny _ A.in1 (do
    cRoomFor "comparison" [.ref x, b]
    let r ← callSpecialIfBound? (.ref x) (Str.ofString "__eq__") [b]
    _) _ _ s
  refine wpAny_bind (m := cRoomFor _ _) (wpAny_cRoomFor hu ?_)
  refine wpAny_bind (m := callSpecialIfBound? (.ref x) (Str.ofString "__eq__") _) (PySem.W.ifBound_K X I hr hf (wpAny_mono h (fun r s' hq => ?_) fun _ _ y => y))
  obtain ⟨r, rfl, hq⟩ := hq
  repeat (first | exact hq | exact wpAny_pure hq | (refine wpAny_bind (m := truthy (.bool _)) (wpAny_truthy_bool ?_)) | wp_step)
theorem ne_K {Q : Value → Shared → Prop} (hu : A.units < cLine) (hu1 : A.in1.units < cLine) (F : Fr h₀ L s.heap m) (X₀ : K.In h₀) (I : PySem.W.InstAt s.heap x ox C od) (hb : PySem.W.Looks (model prog w) s.heap (typeOf b) tb) (hn : PySem.W.notFirst K C tb = true)
    (hs : PySem.W.findIn K (.ref C) "__ne__" = some (some (.builtin "object.__ne__"))) (hm : PySem.W.mroIn K C (.type "object") = some true) (hr : PySem.W.findIn K (.ref C) "__eq__" = some (some (.ref f))) (hf : PySem.W.isFn K (.ref f) = true)
    (h : wpAny (model prog w) A.in1 (call (.ref f) [.ref x, b]) (fun v s' => ∃ r, v = .bool r ∧ Q (.bool (!r)) s') E s) : wpAny (model prog w) A (richCompare .NotEq (.ref x) b) Q E s := by
  have X := X₀.keeps F.keep
  have one : wpAny (model prog w) A (tryCompare (.ref x) "__ne__" b) (fun r s' => ∃ v, r = some v ∧ Q v s') E s := by
    unfold tryCompare
    refine wpAny_bind (ifBoundB X I hs PySem.F.slot_object_ne.bind (obj_ne hu1 X I hm hr hf (wpAny_mono h (fun v s' hv => ?_) fun _ _ e => e)))
    obtain ⟨r, rfl, hq⟩ := hv
    exact ⟨r, rfl, wpAny_pure ⟨_, rfl, hq⟩⟩
  unfold richCompare
  simp only [oneThing_ref]
  refine wpAny_holding (wpAny_bind (wpAny_cRoomFor hu ?_))
  rw [cmpInfo_NotEq]
  dsimp only
  refine wpAny_bind (I.type.here (wpAny_bind (hb.here ?_)))
  split
  · rename_i q
    have e : PySem.W.subIn K tb (.ref C) = some false := by
      rcases Bool.or_eq_true_iff.mp hn with e | e
      · rw [beq_iff_eq.mp e] at q; simp at q
      · exact beq_iff_eq.mp e
    refine wpAny_bind ((PySem.W.looks_subIn X e).here ?_)
    simp only [Bool.false_eq_true, if_false]
    refine wpAny_bind (wpAny_mono one (fun r s' z => ?_) fun _ _ e => e)
    obtain ⟨v, rfl, hq⟩ := z
    exact wpAny_pure hq
  · refine wpAny_bind (wpAny_pure ?_)
    simp only [Bool.false_eq_true, if_false]
    refine wpAny_bind (wpAny_mono one (fun r s' z => ?_) fun _ _ e => e)
    obtain ⟨v, rfl, hq⟩ := z
    exact wpAny_pure hq
end
section
variable {X : Cx} {CX : CXT} {pins : List (Addr × Obj)} {σ : L2.St} {H : Hp} {s : Shared} {C f : Addr} {fd : FuncData} {ps : List Str} {k : Nat} {sp : Sp} {E : XK}
theorem run_in {A : Around} {Q : VK} {us : List Value} {ws : List V} (F : FnOk X.prog X.w X.K X.mg X.base CX k f fd ps sp) (hb : Binds X.K fd ps []) (hr : Room k A) (hf : A.frames = X.A.frames) (hx : Passes CX X E) (I : Inv X pins σ H s) (r : Vals ws us) (h : sp ws H Q E) :
    wpAny (model X.prog X.w) A (call (.ref f) us) (EP X pins σ Q) X.xe s := by
  have e0 : Env0 X.prog X.w X.K X.mg X.base A X.stack s H := by
    have e := I.env0
    exact ⟨by rw [hf]; exact e.frames, e.mod, e.bs, e.bsz, e.funs, e.frf, e.hok, e.bare⟩
  have hl : us.length = ps.length := by rw [← r.length]; exact F.len _ _ _ _ h
  refine wpAny_call (codeAny_mono (F.run A X.stack s H ⟨us, []⟩ us ws Q E hr e0 (by
    have := hb s us I.kIn (by simpa using hl)
    simpa using this) r h) fun r s' hq => ?_)
  cases r with
  | error e => exact hx pins σ H s e s' I hq
  | ok fl =>
    cases fl with
    | ret u => exact I.after hq
    | next => exact False.elim hq
    | brk => exact False.elim hq
    | cont => exact False.elim hq
/-- x op y: x an instance of the class at C, y one too or a tuple -/
def rEqO (K : PySem.W.Frag) (C : Addr) (sp : Sp) (E : XK) : R2 := fun x y H Q => ∃ a dx fs b, x = .ref a ∧ y = .ref b ∧ H a = some (.ins C dx fs) ∧ ((∃ dy gs, H b = some (.ins C dy gs)) ∨ ∃ ys, SqT K H b ys) ∧ sp [x, y] H (fun v H' => ∃ r, v = .bl r ∧ Q (.bl r) H') E
def rNeO (K : PySem.W.Frag) (C : Addr) (sp : Sp) (E : XK) : R2 := fun x y H Q => ∃ a dx fs b, x = .ref a ∧ y = .ref b ∧ H a = some (.ins C dx fs) ∧ ((∃ dy gs, H b = some (.ins C dy gs)) ∨ ∃ ys, SqT K H b ys) ∧ sp [x, y] H (fun v H' => ∃ r, v = .bl r ∧ Q (.bl (!r)) H') E
theorem looksO {b : Addr} (I : Inv X pins σ H s) (nt : PySem.W.notFirst X.K C (.type "tuple") = true) (h : (∃ dy gs, H b = some (.ins C dy gs)) ∨ ∃ ys, SqT X.K H b ys) : ∃ tb, PySem.W.Looks (model X.prog X.w) s.heap (typeOf (.ref b)) tb ∧ PySem.W.notFirst X.K C tb = true := by
  rcases h with ⟨dy, gs, hb⟩ | ⟨ys, hb⟩
  · obtain ⟨mB, J', _⟩ := ins_get I.hok hb
    obtain ⟨od', J', _⟩ := J'.look
    exact ⟨.ref C, J'.type, by simp [PySem.W.notFirst]⟩
  · obtain ⟨its, r, e, z⟩ := I.tuple hb
    obtain ⟨o, ho, hc, n, hd⟩ := id e
    have h1 : PySem.W.Looks (model X.prog X.w) s.heap (typeOf (.ref b)) o.cls := PySem.W.Looks.ld (part := none) ho |>.andThen .now
    rw [hc] at h1
    exact ⟨_, h1, nt⟩
theorem op_eqO (F : FnOk X.prog X.w X.K X.mg X.base CX k f fd ps sp) (hm : Meth X.K C "__eq__" f) (nt : PySem.W.notFirst X.K C (.type "tuple") = true) (hr : Room k X.A) (hb : Binds X.K fd ps []) (hx : Passes CX X E) : OpR X (compareOp .Eq) (rEqO X.K C sp E) := by
  intro pins s σ H x y v u Q I rx ry h
  obtain ⟨a, dx, fs, b, rfl, rfl, ha, hy, q⟩ := h
  cases (show v = Value.ref a from rx)
  cases (show u = Value.ref b from ry)
  obtain ⟨mA, J, _⟩ := ins_get I.hok ha
  obtain ⟨od, J, _⟩ := J.look
  obtain ⟨m, hF⟩ := I.fr
  obtain ⟨tb, hl, hn⟩ := looksO I nt hy
  show wpAny (model X.prog X.w) X.A (richCompare .Eq (.ref a) (.ref b)) _ _ s
  refine PySem.W.cmp_K (op := .Eq) (tb := tb) hr.units0 hF I.ok.mod.kin J hl hn hm.at_ hm.fn ?_
  refine wpAny_mono (run_in (us := [.ref a, .ref b]) (ws := [.ref a, .ref b]) F hb hr rfl hx I (.cons rfl (.cons rfl .nil)) q) (fun w s' z => ?_) fun _ _ x => x
  obtain ⟨z', H', I', rz, r, er, qz⟩ := z
  subst er
  cases (show w = Value.bool r from rz)
  exact ⟨.bl r, H', I', rfl, qz⟩
theorem op_neO (F : FnOk X.prog X.w X.K X.mg X.base CX k f fd ps sp) (hm : Meth X.K C "__eq__" f) (hs : PySem.W.findIn X.K (.ref C) "__ne__" = some (some (.builtin "object.__ne__"))) (ho : PySem.W.mroIn X.K C (.type "object") = some true) (nt : PySem.W.notFirst X.K C (.type "tuple") = true)
    (hr : Room (k + 1) X.A) (hb : Binds X.K fd ps []) (hx : Passes CX X E) : OpR X (compareOp .NotEq) (rNeO X.K C sp E) := by
  intro pins s σ H x y v u Q I rx ry h
  obtain ⟨a, dx, fs, b, rfl, rfl, ha, hy, q⟩ := h
  cases (show v = Value.ref a from rx)
  cases (show u = Value.ref b from ry)
  obtain ⟨mA, J, _⟩ := ins_get I.hok ha
  obtain ⟨od, J, _⟩ := J.look
  obtain ⟨m, hF⟩ := I.fr
  obtain ⟨tb, hl, hn⟩ := looksO I nt hy
  show wpAny (model X.prog X.w) X.A (richCompare .NotEq (.ref a) (.ref b)) _ _ s
  refine ne_K (tb := tb) hr.units0 hr.in1.units0 hF I.ok.mod.kin J hl hn hs ho hm.at_ hm.fn ?_
  refine wpAny_mono (run_in (us := [.ref a, .ref b]) (ws := [.ref a, .ref b]) F hb hr.in1 rfl hx I (.cons rfl (.cons rfl .nil)) q) (fun w s' z => ?_) fun _ _ x => x
  obtain ⟨z', H', I', rz, r, er, qz⟩ := z
  subst er
  cases (show w = Value.bool r from rz)
  exact ⟨r, rfl, .bl (!r), H', I', rfl, qz⟩
end
/-- what isinstance takes as the type of a tuple -/
theorem tyT {K : PySem.W.Frag} {H : Hp} {a : Addr} {xs : List V} (h : SqT K H a xs) : TyX K H (.ref a) (.type "tuple") := by
  rcases h with (h | ⟨o, h⟩) | h
  · exact .base (.tup h)
  · exact .fTuple h
  · obtain ⟨o, _, _, e, c, _⟩ := h
    exact .kTuple e c
end Jv

/-! ### enumerate of a tuple -/
namespace Jv
open PySem PySem.Spec PyProof.Rows L2
open PySem.Sem (wp)
/-- the cell that enumerate lays over an iterator -/
def enCell (it : Addr) : Obj := { cls := .type "enumerate", data := .fields #[.none, .bool false, .ref it, rawInt 0, .none, .none] }
set_option maxHeartbeats 1000000 in
theorem meets_en {v : Value} {o : Obj} {G : Heap → Prop} (B : Begins v o G) :
    Meets (Builtin.«enumerate.__new__» ⟨[.type "enumerate", v], []⟩) (fun _ R s => G s.heap ∧ R (.ok (.ret (.ref (s.heap.push o).objs.size))) { s with heap := (s.heap.push o).push (enCell s.heap.objs.size) }) := by
  refine .of_wp fun prog w A R s h => ?_
  obtain ⟨hp, gg, dd, tk, os⟩ := s
  obtain ⟨hG, h⟩ := h
  have h0 := sub_enumerate
  have walks : ∀ {A' : Around} {E : Value → Shared → Prop} {Q : Value → Shared → Prop}, Q (.ref hp.objs.size) ⟨hp.push o, gg, dd, tk, os⟩ → wpAny (model prog w) A' (pyIter v) Q E ⟨hp, gg, dd, tk, os⟩ :=
    fun {A' E Q} z => B.iter prog w A' E ⟨hp, gg, dd, tk, os⟩ Q hG z
  wp_walk using walks
  refine wpAny_stack_any fun st => wpAny_pure ?_
  split
  · rename_i c _ _ _ _ _
    by_cases hc : (c == Value.type "enumerate") = true
    · simp only [hc]
      wp_walk using walks
      exact ⟨_, rfl, h⟩
    · simp only [hc]
      wp_walk using walks
      exact ⟨_, rfl, h⟩
  · wp_walk using walks
    exact ⟨_, rfl, h⟩
section
variable {prog : Program} {w : World} {A : Around} {E : Value → Shared → Prop} {s : Shared}
theorem call_en {v : Value} {o : Obj} {G : Heap → Prop} {Q : Value → Shared → Prop} (B : Begins v o G) (hG : G s.heap)
    (h : ∀ g, IsEnum g (s.heap.objs.size + 1) s.heap.objs.size 0 .none → g.get? s.heap.objs.size = some o → (∀ b u, s.heap.get? b = some u → g.get? b = some u) → Q (.ref (s.heap.objs.size + 1)) { s with heap := g }) :
    wpAny (model prog w) A (call (.type "enumerate") [v]) Q E s := by
  have sz : (s.heap.push o).objs.size = s.heap.objs.size + 1 := Heap.size_push ..
  have at1 : IsEnum ((s.heap.push o).push (enCell s.heap.objs.size)) (s.heap.objs.size + 1) s.heap.objs.size 0 .none := by
    have q := Heap.get?_push_size (s.heap.push o) (o := enCell s.heap.objs.size) rfl
    rw [sz] at q; exact q
  refine callType_new F.called_enumerate (by decide) (F.typeCall_enumerate_1 _) (F.newCall_enumerate_1 _) (fun obj => F.args_object_init_2 obj _) F.entry_enumerate_new (meets_en B) ⟨hG, ?_⟩
  show _ ∧ _
  rw [sz]
  exact ⟨⟨_, at1, rfl⟩, h _ at1 (Heap.get?_push_of_some _ (Heap.get?_push_size _ B.free)) fun b u x => Heap.get?_push_of_some _ (Heap.get?_push_of_some _ x)⟩
end
/-- the tuple at a, each item in a new pair behind its place -/
def Iet (K : PySem.W.Frag) (a : Addr) : It :=
  ⟨fun i H => ∃ (xs : List V) (x : V), SqT K H a xs ∧ xs[i]? = some x, fun i H v H' => ∃ T x, v = .ref T ∧ H T = none ∧ H' = upd H T (.tup [.int (i : Nat), x]) ∧ ∀ xs, SqT K H a xs → xs[i]? = some x, fun i H => ∃ xs : List V, SqT K H a xs ∧ xs.length = i⟩
theorem apart_it {h : Heap} {it a : Addr} {i : Nat} {vs : Array Value} (t : h.IsTupleIter it a i) (p : h.IsTuple a vs) : a ≠ it := fun e => by
  obtain ⟨o, ho, hc, _⟩ := t
  obtain ⟨o2, ho2, hc2, _⟩ := p
  rw [e, ho] at ho2
  cases ho2
  rw [hc] at hc2
  exact absurd (PySem.Value.type.inj hc2) (by decide)
theorem apart_en {h : Heap} {e it a : Addr} {j : Int} {old : Value} {vs : Array Value} (t : IsEnum h e it j old) (p : h.IsTuple a vs) : e ≠ a := fun x => by
  obtain ⟨o2, ho2, hc2, _⟩ := p
  rw [← x, t] at ho2
  cases ho2
  exact absurd (PySem.Value.type.inj hc2) (by decide)
theorem turn_enT {P : Program} {w : World} {K : PySem.W.Frag} {elts : List Expr} {kk : Nat} {tpos : Pos} (a e it : Addr) :
    Turn P w K (.Tuple elts kk tpos) (Iet K a) [e, it] e (fun i h => (∃ old, IsEnum h e it ((i : Nat) : Int) old) ∧ h.IsTupleIter it a i ∧ e ≠ it) where
  mem := List.mem_cons_self
  obj := fun i h st b hb => by
    obtain ⟨⟨old, he⟩, ⟨o, ho, hc, hd⟩, _⟩ := st
    rcases List.mem_cons.mp hb with rfl | hb
    · exact ⟨_, he, fun v q => nomatch q⟩
    · rw [List.mem_singleton.mp hb]
      exact ⟨o, ho, fun v q => by rw [hd] at q; cases q⟩
  keep := fun i h h' st k => by
    obtain ⟨⟨old, he⟩, hi, hne⟩ := st
    exact ⟨⟨old, k e List.mem_cons_self _ he⟩, hi.at fun o q => k it (List.mem_cons_of_mem _ (List.mem_singleton.mpr rfl)) o q, hne⟩
  item := by
    intro X hP hw hK hc i pins s σ H E I hf st hg
    subst hP hw hK
    obtain ⟨⟨old, he⟩, hit, hne⟩ := st
    obtain ⟨xs, x, hq, hx⟩ := hg
    obtain ⟨its, rv, p, hz⟩ := I.tuple hq
    obtain ⟨u, hu, ru⟩ := rv.get hx
    have le : e < s.heap.objs.size := Heap.lt_size he
    have li : it < s.heap.objs.size := by obtain ⟨_, q, _⟩ := hit; exact Heap.lt_size q
    have ea := apart_en he p
    have lt : i < its.toArray.size := by
      rw [List.size_toArray]
      exact (List.getElem?_eq_some_iff.mp hu).1
    refine wpAny_pyNext_enum_itemD (Draws.tuple (A := X.A.in1) (I.ok.hd hc) it a (apart_it hit p) its.toArray) he ⟨hit, p⟩ lt hne (fun m => ?_) fun x' h' tk hP ho hst' hT hsz hk => ?_
    · rcases List.mem_cons.mp m with m | m
      · exact hne m
      · exact ea (List.mem_singleton.mp m)
    obtain rfl : x' = u := by
      have : its.toArray[i]? = some u := by simpa using hu
      rw [this] at hP; exact (Option.some.inj hP).symm
    refine ⟨_, rfl, wpAny_letOwnedTupleGo_enum (s := { s with heap := h', toks := tk + 1 }) ho fun h'' he' sb => ?_⟩
    have hT2 : h''.get? s.heap.objs.size = some { cls := .type "tuple", data := .seq #[.int i tk, x'] } := (sb.2 _ (Nat.ne_of_gt le)).trans hT
    have new : ObjOk X.prog X.w (upd H s.heap.objs.size (.tup [.int (i : Nat), x])) h'' s.heap.objs.size (.tup [.int (i : Nat), x]) :=
      ⟨by show 2 ≤ sizeLine; decide, [.int i tk, x'], .cons ⟨_, rfl⟩ (.cons ru .nil), ⟨_, hT2, rfl, _, rfl⟩⟩
    have I1 : Inv X pins σ (upd H s.heap.objs.size (.tup [.int (i : Nat), x])) { s with heap := h'', toks := tk + 1 } :=
      I.turnedNew (ch := [e, it]) (fun b ob hb q => (sb.2 b (fun z => hb (by simp [z]))).trans (hk b ob (fun z => hb (by simp [z])) (fun z => hb (by simp [z])) q)) hf (Nat.le_refl _) new
    refine ⟨.ref s.heap.objs.size, _, I1, rfl, ⟨_, x, rfl, I.hok.fresh (Nat.le_refl _), rfl, fun ys hy => by rw [I.tuple_inj hy hq]; exact hx⟩, ⟨⟨x', ?_⟩, hst'.1.at fun o q => (sb.2 it (Ne.symm hne)).trans q, hne⟩, fun b hb => ?_⟩
    · have e1 : ((i + 1 : Nat) : Int) = (i : Int) + 1 := by omega
      rw [e1]; exact he'
    · have lb : b < s.heap.objs.size := by
        rcases List.mem_cons.mp hb with z | z
        · rw [z]; exact le
        · rw [List.mem_singleton.mp z]; exact li
      rw [upd_ne (Nat.ne_of_lt lb)]
      exact (hf b hb).1
  done := by
    intro X hP hw hK hc i pins s σ H E I hf st hg
    subst hP hw hK
    obtain ⟨⟨old, he⟩, hit, hne⟩ := st
    obtain ⟨xs, hq, hx⟩ := hg
    obtain ⟨its, rv, p, hz⟩ := I.tuple hq
    obtain ⟨f0, f1, f2, f3, f4, f5⟩ := hf it (List.mem_cons_of_mem _ (List.mem_singleton.mpr rfl))
    have hl : i = its.toArray.size := by rw [List.size_toArray, ← rv.length]; exact hx.symm
    subst hl
    exact wpAny_pyNext_enum_endD (Draws.tuple (A := X.A.in1) (I.ok.hd hc) it a (apart_it hit p) its.toArray) he ⟨hit, p⟩ fun h' eb => ⟨rfl, I.turned (t' := s.toks) (fun b o hb q => eb b o hb q) f0 f1 f3 f4 f5⟩
  self := fun A i s Q E st h => let ⟨⟨_, he⟩, _⟩ := st; wpAny_pyIter_enum he h
def iEnT (K : PySem.W.Frag) (ta : TA) : TI := fun σ H R => ta σ H fun vs H1 => ∃ a xs, vs = [.ref a] ∧ SqT K H1 a xs ∧ R (Iet K a) H1
theorem pi_enT {X : Cx} {e : Expr} {ta : TA} {p pos tpos : Pos} {elts : List Expr} {kk : Nat} (hg : Gl X "enumerate") (hm : X.mg "enumerate" = none) (ha : PA X [e] ta) (hs : starEach [e] X.env = [(false, eval e X.env)] := by rfl) :
    PI X (.Tuple elts kk tpos) (.Call (.Name "enumerate" p) [e] [] pos) (iEnT X.K ta) := by
  refine ⟨fun pins s σ H R I h => ?_⟩
  refine Call_ (ld_blt I hg hm boot_enumerate (PyProof.Rows.callWith_type1 (thn (ha.run pos pins s σ H _ I h) fun us s1 ⟨vs, H1, I1, r1, q1⟩ => ?_) hs rfl))
  obtain ⟨a, xs, rfl, hq, q⟩ := q1
  cases r1 with
  | cons r rr =>
    cases rr
    cases r
    obtain ⟨its, rv, p', hz⟩ := I1.tuple hq
    refine call_en (begins_tuple a its.toArray) p' fun g he hit hk => wpAny_pyIter_enum he ?_
    have I2 : Inv X pins σ H1 { s1 with heap := g } := I1.kept (t' := s1.toks) hk
    refine ⟨s1.heap.objs.size + 1, [s1.heap.objs.size + 1, s1.heap.objs.size], _, _, H1, rfl, I2, turn_enT a (s1.heap.objs.size + 1) s1.heap.objs.size, ⟨⟨.none, he⟩, ⟨_, hit, rfl, rfl⟩, Nat.succ_ne_self _⟩, fun b hb => ?_, q⟩
    have hle : s1.heap.objs.size ≤ b := by
      rcases List.mem_cons.mp hb with z | z
      · rw [z]; exact Nat.le_add_right _ _
      · rw [List.mem_singleton.mp z]; exact Nat.le_refl _
    exact I1.fpOk hle (I1.hok.fresh hle)
section
variable {K : PySem.W.Frag} {a : Addr} {xs : List V} {x : V} {σ : L2.St} {H : Hp} {ta : TA} {i : Nat}
theorem r_iEt {P : It → Hp → Prop} (h : ta σ H fun vs H1 => ∃ b ys, vs = [.ref b] ∧ SqT K H1 b ys ∧ P (Iet K b) H1) : iEnT K ta σ H P := h
theorem walk_enT : Walk (Iet K a) xs.length (fun H => SqT K H a xs) (YPair (fun i => some (.int (i : Nat))) (fun i => xs[i]?)) := by
  refine ⟨fun i _ hi q => ⟨xs, xs[i], q, by simp [hi]⟩, fun _ q => ⟨xs, q, rfl⟩, fun i H v H' _ q y => ?_⟩
  obtain ⟨T, x, h1, h2, h3, h4⟩ := y
  exact ⟨T, .int (i : Nat), x, h1, h2, h3, rfl, h4 xs q⟩
/-- a loop over enumerate of a name that holds a list or a tuple that stays -/
theorem for_en {g : TG} {tb : TS} {D : Ends} {H0 : Hp} (hv : σ[i]? = some (some x)) (hx : Sk K H0 x xs) (s0 : Same H0 H) (Pv : Nat → L2.St → Hp → Prop) (h0 : Pv 0 σ H) (hl : ∀ j σ' H', Pv j σ' H' → Same H0 H')
    (hs : ∀ j v T σ' H', xs[j]? = some v → H' T = none → Pv j σ' H' → g (.ref T) σ' (upd H' T (.tup [.int (j : Nat), v])) fun σ2 H2 => tb { D with nx := Pv (j + 1), ct := Pv (j + 1), bk := D.nx } σ2 H2) (hd : ∀ σ' H', Pv xs.length σ' H' → D.nx σ' H') :
    iEnum K (tCons (tVar i) tNil) σ H (fun it H1 => ∃ W : Nat → Nat → L2.St → Hp → Prop, (∃ m, W 0 m σ H1) ∧ ∀ i m σ H, W i m σ H →
      (it.stop i H ∧ D.nx σ H) ∨ (it.go i H ∧ ∃ N : L2.St → Hp → Prop, (∀ σ' H', N σ' H' → ∃ m', m' < m ∧ W (i + 1) m' σ' H') ∧ ∀ x H', it.yld i H x H' → g x σ H' fun σ2 H2 => tb { D with nx := N, ct := N, bk := D.nx } σ2 H2)) ∨
    iEnT K (tCons (tVar i) tNil) σ H (fun it H1 => ∃ W : Nat → Nat → L2.St → Hp → Prop, (∃ m, W 0 m σ H1) ∧ ∀ i m σ H, W i m σ H →
      (it.stop i H ∧ D.nx σ H) ∨ (it.go i H ∧ ∃ N : L2.St → Hp → Prop, (∀ σ' H', N σ' H' → ∃ m', m' < m ∧ W (i + 1) m' σ' H') ∧ ∀ x H', it.yld i H x H' → g x σ H' fun σ2 H2 => tb { D with nx := N, ct := N, bk := D.nx } σ2 H2)) := by
  have go : ∀ j v σ1 H1 H2, j < xs.length → Pv j σ1 H1 → YPair (fun i => some (.int (i : Nat))) (fun i => xs[i]?) j H1 v H2 → g v σ1 H2 fun σ2 H2 => tb { D with nx := Pv (j + 1), ct := Pv (j + 1), bk := D.nx } σ2 H2 := by
    rintro j v σ1 H1 H2 _ p ⟨T, y, z, rfl, hT, rfl, e1, e2⟩
    cases e1
    exact hs j z T σ1 H1 e2 hT p
  obtain ⟨a, rfl, h | h⟩ := hx
  · exact .inl ⟨_, hv, a, xs, rfl, s0.seq h, for_it walk_enum Pv h0 (fun j σ' H' _ p => (hl j σ' H' p).seq h) go hd⟩
  · exact .inr ⟨_, hv, a, xs, rfl, Jv.Same.sqT s0 h, for_it walk_enT Pv h0 (fun j σ' H' _ p => Jv.Same.sqT (hl j σ' H' p) h) go hd⟩
end
end Jv

/-! ### sum, max, min of a tuple of whole numbers -/
namespace Jv
open PySem PySem.Spec PyProof.Rows L2
section
variable {prog : Program} {w : World} {A : Around} {E : Value → Shared → Prop} {s : Shared} {t : Addr} {xs : Array (Int × Tok)} {its : List Value} {ns : List Int}
theorem max_tupI {Q : Value → Shared → Prop} (hh : A.handled = none) (ht : s.heap.IsTuple t (intItems xs)) (hn : 0 < xs.size)
    (h : ∀ v h' tk, (intItems xs)[argBest (fun i j => decide (numAt xs i > numAt xs j)) (xs.size - 1)]? = some v → (∀ b o, s.heap.get? b = some o → h'.get? b = some o) → Q v { s with heap := h', toks := tk }) :
    wpAny (model prog w) A (call (.builtin "max") [.ref t]) Q E s := by
  obtain ⟨o, ho, hc, n, hd⟩ := id ht
  have hne : t ≠ s.heap.objs.size := Nat.ne_of_lt (Heap.lt_size ho)
  have hsz : (intItems xs).size = xs.size := by simp [intItems]
  have W := (Walks.tuple (prog := prog) (w := w) (A := A.in1) hh s.heap.objs.size t hne (intItems xs)).toS
  rw [hsz] at W
  refine call_max_walkS (wpAny_pyIter_tuple ht ?_)
  refine ⟨s.heap.objs.size, _, _, _, _, _, _, _, rfl, W, ⟨⟨_, Heap.get?_push_size _ rfl, rfl, rfl⟩, ht.at fun o e => Heap.get?_push_of_some _ e⟩, fun b hb => ?_, hn, CmpOf.ints_gt (numAt xs) (fun _ _ => intItems_at), fun v s' hP hm => ?_⟩
  · rcases List.mem_cons.mp hb with rfl | hb
    · exact Heap.lt_size (Heap.get?_push_size _ rfl)
    · obtain rfl := List.mem_singleton.mp hb
      exact Heap.lt_size (Heap.get?_push_of_some _ ho)
  · obtain ⟨h', g', d', tk', os'⟩ := s'
    have e1 : g' = s.gens := hm.gens
    have e2 : d' = s.drawn := hm.drawn
    have e3 : os' = s.os := hm.os
    subst e1 e2 e3
    exact h v h' tk' hP fun b o e => hm.heap b o (fun hb => absurd (Heap.lt_size e) ((List.mem_singleton.mp hb) ▸ Nat.lt_irrefl _)) (Heap.get?_push_of_some _ e)
theorem min_tupI {Q : Value → Shared → Prop} (hh : A.handled = none) (ht : s.heap.IsTuple t (intItems xs)) (hn : 0 < xs.size)
    (h : ∀ v h' tk, (intItems xs)[argBest (fun i j => decide (numAt xs i < numAt xs j)) (xs.size - 1)]? = some v → (∀ b o, s.heap.get? b = some o → h'.get? b = some o) → Q v { s with heap := h', toks := tk }) :
    wpAny (model prog w) A (call (.builtin "min") [.ref t]) Q E s := by
  obtain ⟨o, ho, hc, n, hd⟩ := id ht
  have hne : t ≠ s.heap.objs.size := Nat.ne_of_lt (Heap.lt_size ho)
  have hsz : (intItems xs).size = xs.size := by simp [intItems]
  have W := (Walks.tuple (prog := prog) (w := w) (A := A.in1) hh s.heap.objs.size t hne (intItems xs)).toS
  rw [hsz] at W
  refine call_min_walkS (wpAny_pyIter_tuple ht ?_)
  refine ⟨s.heap.objs.size, _, _, _, _, _, _, _, rfl, W, ⟨⟨_, Heap.get?_push_size _ rfl, rfl, rfl⟩, ht.at fun o e => Heap.get?_push_of_some _ e⟩, fun b hb => ?_, hn, CmpOf.ints_lt (numAt xs) (fun _ _ => intItems_at), fun v s' hP hm => ?_⟩
  · rcases List.mem_cons.mp hb with rfl | hb
    · exact Heap.lt_size (Heap.get?_push_size _ rfl)
    · obtain rfl := List.mem_singleton.mp hb
      exact Heap.lt_size (Heap.get?_push_of_some _ ho)
  · obtain ⟨h', g', d', tk', os'⟩ := s'
    have e1 : g' = s.gens := hm.gens
    have e2 : d' = s.drawn := hm.drawn
    have e3 : os' = s.os := hm.os
    subst e1 e2 e3
    exact h v h' tk' hP fun b o e => hm.heap b o (fun hb => absurd (Heap.lt_size e) ((List.mem_singleton.mp hb) ▸ Nat.lt_irrefl _)) (Heap.get?_push_of_some _ e)
theorem max_tup {Q : Value → Shared → Prop} (hh : A.handled = none) (hl : s.heap.IsTuple t its.toArray) (hi : IntsAre its ns) (hne : 0 < ns.length)
    (h : ∀ h' tk M t', (∀ b o, s.heap.get? b = some o → h'.get? b = some o) → M ∈ ns → (∀ a, a ∈ ns → a ≤ M) → Q (.int M t') { s with heap := h', toks := tk }) : wpAny (model prog w) A (call (.builtin "max") [.ref t]) Q E s := by
  obtain ⟨xs, e⟩ := hi.allInts.items
  have hn : numsOf (intItems xs).toList = ns := by rw [← e]; exact hi.numsOf
  rw [nums_intItems] at hn
  subst hn
  rw [e] at hl
  have hsz : 0 < xs.size := by simpa using hne
  refine max_tupI hh hl hsz fun v h' tk hv hk => ?_
  obtain ⟨t, rfl⟩ := intItems_at hv
  obtain ⟨h1, h2⟩ := argBest_gt (numAt xs) (xs.size - 1)
  refine h h' tk _ t hk ?_ fun a ha => ?_
  · rw [numAt_eq]; exact PySem.getD_mem (by rw [List.length_map, Array.length_toList]; omega)
  · obtain ⟨j, hj, rfl⟩ := mem_getD ha
    rw [List.length_map, Array.length_toList] at hj
    rw [← numAt_eq]
    exact h2 j (by omega)
theorem min_tup {Q : Value → Shared → Prop} (hh : A.handled = none) (hl : s.heap.IsTuple t its.toArray) (hi : IntsAre its ns) (hne : 0 < ns.length)
    (h : ∀ h' tk M t', (∀ b o, s.heap.get? b = some o → h'.get? b = some o) → M ∈ ns → (∀ a, a ∈ ns → M ≤ a) → Q (.int M t') { s with heap := h', toks := tk }) : wpAny (model prog w) A (call (.builtin "min") [.ref t]) Q E s := by
  obtain ⟨xs, e⟩ := hi.allInts.items
  have hn : numsOf (intItems xs).toList = ns := by rw [← e]; exact hi.numsOf
  rw [nums_intItems] at hn
  subst hn
  rw [e] at hl
  have hsz : 0 < xs.size := by simpa using hne
  refine min_tupI hh hl hsz fun v h' tk hv hk => ?_
  obtain ⟨t, rfl⟩ := intItems_at hv
  obtain ⟨h1, h2⟩ := argBest_lt (numAt xs) (xs.size - 1)
  refine h h' tk _ t hk ?_ fun a ha => ?_
  · rw [numAt_eq]; exact PySem.getD_mem (by rw [List.length_map, Array.length_toList]; omega)
  · obtain ⟨j, hj, rfl⟩ := mem_getD ha
    rw [List.length_map, Array.length_toList] at hj
    rw [← numAt_eq]
    exact h2 j (by omega)
theorem sum_tup {Q : Value → Shared → Prop} (hh : A.handled = none) (hl : s.heap.IsTuple t its.toArray) (hi : IntsAre its ns)
    (h : ∀ h' tk t', (∀ b o, s.heap.get? b = some o → h'.get? b = some o) → Q (.int ns.sum t') { s with heap := h', toks := tk }) : wpAny (model prog w) A (call (.builtin "sum") [.ref t]) Q E s := by
  obtain ⟨xs, e⟩ := hi.allInts.items
  have hn : numsOf (intItems xs).toList = ns := by rw [← e]; exact hi.numsOf
  rw [nums_intItems] at hn
  rw [e] at hl
  refine PySem.W.ktm_sumG hh hl fun h' tk t' hk => ?_
  have := h h' tk t' hk
  rw [preSum_eq, List.take_of_length_le (by simp), hn]; exact this
end
section
variable {X : Cx}
/-- sum, max, min of a list or a tuple of whole numbers -/
def rSumA (K : PySem.W.Frag) : List V → Hp → VK → Prop := fun vs H Q => ∃ (x : V) (ns : List Int), vs = [x] ∧ Sk K H x (ns.map V.int) ∧ Q (.int ns.sum) H
def rMaxA (K : PySem.W.Frag) : List V → Hp → VK → Prop := fun vs H Q => ∃ (x : V) (ns : List Int), vs = [x] ∧ Sk K H x (ns.map V.int) ∧ 0 < ns.length ∧ ∀ m, m ∈ ns → (∀ y, y ∈ ns → y ≤ m) → Q (.int m) H
def rMinA (K : PySem.W.Frag) : List V → Hp → VK → Prop := fun vs H Q => ∃ (x : V) (ns : List Int), vs = [x] ∧ Sk K H x (ns.map V.int) ∧ 0 < ns.length ∧ ∀ m, m ∈ ns → (∀ y, y ∈ ns → m ≤ y) → Q (.int m) H
theorem cr_sumA (hc : X.calm = true) : CallR X (.builtin "sum") (rSumA X.K) := by
  intro pins s σ H vs us Q I r h
  obtain ⟨x, ns, rfl, ⟨a, rfl, hs | hs⟩, q⟩ := h
  · exact cr_sum hc pins s σ H _ us Q I r ⟨a, ns, rfl, hs, q⟩
  · obtain ⟨its, rv, hl, _⟩ := I.tuple hs
    rw [Vals.ref1 r]
    exact sum_tup (I.ok.hd hc) hl rv.ints fun h' tk t' hk => ⟨.int _, H, I.kept hk, ⟨_, rfl⟩, q⟩
theorem cr_maxA (hc : X.calm = true) : CallR X (.builtin "max") (rMaxA X.K) := by
  intro pins s σ H vs us Q I r h
  obtain ⟨x, ns, rfl, ⟨a, rfl, hs | hs⟩, hne, q⟩ := h
  · exact cr_max hc pins s σ H _ us Q I r ⟨a, ns, rfl, hs, hne, q⟩
  · obtain ⟨its, rv, hl, _⟩ := I.tuple hs
    rw [Vals.ref1 r]
    exact max_tup (I.ok.hd hc) hl rv.ints hne fun h' tk m t' hk h1 h2 => ⟨.int _, H, I.kept hk, ⟨_, rfl⟩, q m h1 h2⟩
theorem cr_minA (hc : X.calm = true) : CallR X (.builtin "min") (rMinA X.K) := by
  intro pins s σ H vs us Q I r h
  obtain ⟨x, ns, rfl, ⟨a, rfl, hs | hs⟩, hne, q⟩ := h
  · exact cr_min hc pins s σ H _ us Q I r ⟨a, ns, rfl, hs, hne, q⟩
  · obtain ⟨its, rv, hl, _⟩ := I.tuple hs
    rw [Vals.ref1 r]
    exact min_tup (I.ok.hd hc) hl rv.ints hne fun h' tk m t' hk h1 h2 => ⟨.int _, H, I.kept hk, ⟨_, rfl⟩, q m h1 h2⟩
end
end Jv

/-! ### zip of a tuple and a list -/
namespace Jv
open PySem PySem.Spec PyProof.Rows L2
open PySem.Sem (wp)
def ItzM (K : PySem.W.Frag) (a b : Addr) : It :=
  ⟨fun i H => ∃ (xs ys : List V) (x y : V), SqT K H a xs ∧ SqL K H b ys ∧ xs[i]? = some x ∧ ys[i]? = some y,
    fun i H v H' => ∃ T x y, v = .ref T ∧ H T = none ∧ H' = upd H T (.tup [x, y]) ∧ (∀ xs, SqT K H a xs → xs[i]? = some x) ∧ ∀ ys, SqL K H b ys → ys[i]? = some y,
    fun i H => ∃ xs ys : List V, SqT K H a xs ∧ SqL K H b ys ∧ i ≤ xs.length ∧ i ≤ ys.length ∧ (i = xs.length ∨ i = ys.length)⟩
theorem turn_zipM {P : Program} {w : World} {K : PySem.W.Frag} {elts : List Expr} {kk : Nat} {tpos : Pos} {a b z TI TO i1 i2 : Addr} (D : ZipSep2 z TI TO i1 i2 [i1, a] [i2, b]) (n1 : a ≠ i1) (n2 : b ≠ i2) :
    Turn P w K (.Tuple elts kk tpos) (ItzM K a b) [z, TI, TO, i1, i2] z (fun i h => IsZip h z TI TO .none ∧ IsPair h TI (.ref i1) (.ref i2) ∧ (∃ x y, IsPair h TO x y) ∧ h.IsTupleIter i1 a i ∧ h.IsListIter i2 b i) where
  mem := by simp
  obj := fun i h st c hc => by
    obtain ⟨hz, hTI, ⟨x, y, hTO⟩, ⟨o1, e1, _, d1⟩, ⟨o2, e2, _, d2⟩⟩ := st
    have e' : c = z ∨ c = TI ∨ c = TO ∨ c = i1 ∨ c = i2 := by simpa using hc
    rcases e' with q | q | q | q | q
    · rw [q]; exact ⟨_, hz, fun v q => nomatch q⟩
    · rw [q]; exact ⟨_, hTI, fun v q => nomatch q⟩
    · rw [q]; exact ⟨_, hTO, fun v q => nomatch q⟩
    · rw [q]; exact ⟨o1, e1, fun v q => by rw [d1] at q; cases q⟩
    · rw [q]; exact ⟨o2, e2, fun v q => by rw [d2] at q; cases q⟩
  keep := fun i h h' st k => by
    obtain ⟨hz, hTI, ⟨x, y, hTO⟩, h1, h2⟩ := st
    exact ⟨k z (by simp) _ hz, k TI (by simp) _ hTI, ⟨x, y, k TO (by simp) _ hTO⟩, h1.at fun o q => k i1 (by simp) o q, h2.at fun o q => k i2 (by simp) o q⟩
  item := by
    intro X hP hw hK hc i pins s σ H E I hf st hg
    subst hP hw hK
    obtain ⟨hz, hTI, ⟨x0, y0, hTO⟩, h1, h2⟩ := st
    obtain ⟨xs, ys, x, y, hqx, hqy, hx, hy⟩ := hg
    obtain ⟨its, rv, p, _⟩ := I.tuple hqx
    obtain ⟨its2, rv2, p2, _⟩ := I.list hqy
    obtain ⟨u, hu, ru⟩ := rv.get hx
    obtain ⟨u2, hu2, ru2⟩ := rv2.get hy
    have hzl : z < s.heap.objs.size := Heap.lt_size hz
    have lt1 : i < its.toArray.size := by rw [List.size_toArray]; exact (List.getElem?_eq_some_iff.mp hu).1
    have lt2 : i < its2.toArray.size := by rw [List.size_toArray]; exact (List.getElem?_eq_some_iff.mp hu2).1
    refine wpAny_pyNext_zipD2_item D (Draws.tuple (A := X.A.in1) (I.ok.hd hc) i1 a n1 its.toArray) (Draws.list (A := X.A.in1) (I.ok.hd hc) i2 b n2 its2.toArray) hz hTI hTO ⟨h1, p⟩ ⟨h2, p2.isList⟩ lt1 lt2 fun x1 x2 h' tk P1 P2 z' TO' s1 s2 hT hsz hk => ?_
    obtain rfl : x1 = u := by
      have : its.toArray[i]? = some u := by simpa using hu
      rw [this] at P1; exact (Option.some.inj P1).symm
    obtain rfl : x2 = u2 := by
      have : its2.toArray[i]? = some u2 := by simpa using hu2
      rw [this] at P2; exact (Option.some.inj P2).symm
    have h1' := s1.1
    have h2' := s2.1
    refine ⟨_, rfl, wpAny_letOwnedTupleGo_zip (s := { s with heap := h', toks := tk }) z' fun h'' z'' sb => ?_⟩
    have hT2 : h''.get? s.heap.objs.size = some { cls := .type "tuple", data := .seq #[x1, x2] } := (sb.2 _ (Nat.ne_of_gt hzl)).trans hT
    have new : ObjOk X.prog X.w (upd H s.heap.objs.size (.tup [x, y])) h'' s.heap.objs.size (.tup [x, y]) :=
      ⟨by show 2 ≤ sizeLine; decide, [x1, x2], .cons ru (.cons ru2 .nil), ⟨_, hT2, rfl, _, rfl⟩⟩
    have I1 : Inv X pins σ (upd H s.heap.objs.size (.tup [x, y])) { s with heap := h'', toks := tk } :=
      I.turnedNew (t' := tk) (ch := [z, TI, TO, i1, i2]) (fun c o hb q => (sb.2 c (fun q' => hb (by simp [q']))).trans (hk c o (fun q' => hb (by simp [q'])) (fun q' => hb (by simp [q'])) (fun q' => hb (by simp [q'])) (fun q' => hb (by simp [q'])) q)) hf (Nat.le_refl _) new
    refine ⟨.ref s.heap.objs.size, _, I1, rfl, ⟨_, x, y, rfl, I.hok.fresh (Nat.le_refl _), rfl, fun l hl => by rw [I.tuple_inj hl hqx]; exact hx, fun l hl => by rw [I.list_inj hl hqy]; exact hy⟩, ⟨z'', ?_, ⟨x1, x2, ?_⟩, ?_, ?_⟩, fun c hcm => ?_⟩
    · exact (sb.2 _ D.TIz).trans (hk _ _ D.TIz D.TITO D.TIi1 D.TIi2 hTI)
    · exact (sb.2 _ D.TOz).trans TO'
    · exact h1'.at fun o q => (sb.2 _ (fun e => D.zf1 (e ▸ List.mem_cons_self))).trans q
    · exact h2'.at fun o q => (sb.2 _ (fun e => D.zf2 (e ▸ List.mem_cons_self))).trans q
    · have hlt : c < s.heap.objs.size := by
        have e' : c = z ∨ c = TI ∨ c = TO ∨ c = i1 ∨ c = i2 := by simpa using hcm
        rcases e' with q | q | q | q | q
        · rw [q]; exact hzl
        · rw [q]; exact Heap.lt_size hTI
        · rw [q]; exact Heap.lt_size hTO
        · rw [q]; obtain ⟨_, e1, _⟩ := h1; exact Heap.lt_size e1
        · rw [q]; obtain ⟨_, e2, _⟩ := h2; exact Heap.lt_size e2
      rw [upd_ne (Nat.ne_of_lt hlt)]
      exact (hf c hcm).1
  done := by
    intro X hP hw hK hc i pins s σ H E I hf st hg
    subst hP hw hK
    obtain ⟨hz, hTI, ⟨x0, y0, hTO⟩, h1, h2⟩ := st
    obtain ⟨xs, ys, hqx, hqy, le1, le2, hend⟩ := hg
    obtain ⟨its, rv, p, _⟩ := I.tuple hqx
    obtain ⟨its2, rv2, p2, _⟩ := I.list hqy
    have l1 := rv.length
    have l2 := rv2.length
    exact wpAny_pyNext_zipD2_end D (Draws.tuple (A := X.A.in1) (I.ok.hd hc) i1 a n1 its.toArray) (Draws.list (A := X.A.in1) (I.ok.hd hc) i2 b n2 its2.toArray) hz hTI hTO ⟨h1, p⟩ ⟨h2, p2.isList⟩
      (by rw [List.size_toArray]; omega) (by rw [List.size_toArray]; omega) (by rw [List.size_toArray, List.size_toArray]; omega) fun h' tk hk => ⟨rfl, I.turnedL (t' := tk) (ch := [z, TI, TO, i1, i2]) (fun c o hb q =>
      hk c o (fun q' => hb (by simp [q'])) (fun q' => hb (by simp [q'])) (fun q' => hb (by simp [q'])) (fun q' => hb (by simp [q'])) q) hf⟩
  self := fun A i s Q E st h => wpAny_pyIter_zip st.1 h
def iZipM (K : PySem.W.Frag) (ta : TA) : TI := fun σ H R => ta σ H fun vs H1 => ∃ a b xs ys, vs = [.ref a, .ref b] ∧ SqT K H1 a xs ∧ SqL K H1 b ys ∧ R (ItzM K a b) H1
theorem pi_zipM {X : Cx} {e e2 : Expr} {ta : TA} {p pos tpos : Pos} {elts : List Expr} {kk : Nat} (hg : Gl X "zip") (hm : X.mg "zip" = none) (ha : PA X [e, e2] ta)
    (hs : starEach [e, e2] X.env = (false, eval e X.env) :: starEach [e2] X.env := by rfl) (hpl : (backTo pos (starEach [e2] X.env)).any (·.1) = false := by rfl) :
    PI X (.Tuple elts kk tpos) (.Call (.Name "zip" p) [e, e2] [] pos) (iZipM X.K ta) := by
  refine ⟨fun pins s σ H R I h => ?_⟩
  refine Call_ (ld_blt I hg hm PyProof.Rows.boot_zip (PyProof.Rows.callWith_type1 (thn (ha.run pos pins s σ H _ I h) fun us s1 ⟨vs, H1, I1, r1, q1⟩ => ?_) hs hpl))
  obtain ⟨a, b, xs, ys, ex, hqx, hqy, q⟩ := q1
  subst ex
  cases r1 with
  | cons r rr =>
    cases rr with
    | cons r' rr =>
      cases rr
      cases r
      cases r'
      have fresh5 : ∀ c, c ∈ [s1.heap.objs.size + 4, s1.heap.objs.size + 2, s1.heap.objs.size + 3, s1.heap.objs.size, s1.heap.objs.size + 1] → FpOk X pins H1 c := fun c hcm => by
        have e' : c = s1.heap.objs.size + 4 ∨ c = s1.heap.objs.size + 2 ∨ c = s1.heap.objs.size + 3 ∨ c = s1.heap.objs.size ∨ c = s1.heap.objs.size + 1 := by simpa using hcm
        have hle : s1.heap.objs.size ≤ c := by
          rcases e' with z | z | z | z | z
          · rw [z]; exact Nat.le_add_right _ _
          · rw [z]; exact Nat.le_add_right _ _
          · rw [z]; exact Nat.le_add_right _ _
          · rw [z]; exact Nat.le_refl _
          · rw [z]; exact Nat.le_add_right _ _
        exact I1.fpOk hle (I1.hok.fresh hle)
      obtain ⟨its, rv, p1, _⟩ := I1.tuple hqx
      obtain ⟨its2, rv2, p2, _⟩ := I1.list hqy
      obtain ⟨o1, ho1, _⟩ := id p1
      have l1 : a < s1.heap.objs.size := Heap.lt_size ho1
      have l2 : b < s1.heap.objs.size := p2.lt
      refine zip_begins2 (begins_tuple a its.toArray) (begins_list b its2.toArray) p1 p2.isList fun h' hz hTI hTO h1 h2 hsz hk => wpAny_pyIter_zip hz ?_
      have I2 : Inv X pins σ H1 { s1 with heap := h' } := I1.kept (t' := s1.toks) hk
      exact ⟨s1.heap.objs.size + 4, [s1.heap.objs.size + 4, s1.heap.objs.size + 2, s1.heap.objs.size + 3, s1.heap.objs.size, s1.heap.objs.size + 1], _, _, H1, rfl, I2,
        turn_zipM (zip_sep2 (fun c hc => by rw [List.mem_singleton.mp hc]; exact l1) (fun c hc => by rw [List.mem_singleton.mp hc]; exact l2)) (Nat.ne_of_lt l1) (Nat.ne_of_lt (Nat.lt_succ_of_lt l2)),
        ⟨hz, hTI, ⟨_, _, hTO⟩, ⟨_, h1, rfl, rfl⟩, ⟨_, h2, rfl, rfl⟩⟩, fresh5, q⟩
/-- zip of two lists, of two tuples, of a tuple and a list -/
def iZipX (K : PySem.W.Frag) (ta : TA) : TI := fun σ H R => RZ.iZipA K ta σ H R ∨ iZipM K ta σ H R
theorem pi_zipX {X : Cx} {e e2 : Expr} {ta : TA} {p pos tpos : Pos} {elts : List Expr} {kk : Nat} (hg : Gl X "zip") (hm : X.mg "zip" = none) (ha : PA X [e, e2] ta)
    (hs : starEach [e, e2] X.env = (false, eval e X.env) :: starEach [e2] X.env := by rfl) (hpl : (backTo pos (starEach [e2] X.env)).any (·.1) = false := by rfl) :
    PI X (.Tuple elts kk tpos) (.Call (.Name "zip" p) [e, e2] [] pos) (iZipX X.K ta) := ⟨fun pins s σ H R I h => h.elim ((RZ.pi_zipA hg hm ha hs hpl).run pins s σ H R I) ((pi_zipM hg hm ha hs hpl).run pins s σ H R I)⟩
section
variable {K : PySem.W.Frag} {a b : Addr} {xs ys : List V} {n : Nat}
theorem walk_zipM (hn : n = min xs.length ys.length) : Walk (ItzM K a b) n (fun H => SqT K H a xs ∧ SqL K H b ys) (YPair (fun i => xs[i]?) (fun i => ys[i]?)) := by
  refine ⟨fun i H hi q => ⟨xs, ys, xs[i]'(by omega), ys[i]'(by omega), q.1, q.2, by simp [show i < xs.length by omega], by simp [show i < ys.length by omega]⟩, fun H q => ⟨xs, ys, q.1, q.2, by omega, by omega, by omega⟩, fun i H v H' _ q y => ?_⟩
  obtain ⟨T, x, y, h1, h2, h3, h4, h5⟩ := y
  exact ⟨T, x, y, h1, h2, h3, h4 xs q.1, h5 ys q.2⟩
theorem walk_zipA (hn : n = min xs.length ys.length) : Walk (RZ.ItzT K a b) n (fun H => SqT K H a xs ∧ SqT K H b ys) (YPair (fun i => xs[i]?) (fun i => ys[i]?)) := by
  refine ⟨fun i H hi q => ⟨xs, ys, xs[i]'(by omega), ys[i]'(by omega), q.1, q.2, by simp [show i < xs.length by omega], by simp [show i < ys.length by omega]⟩, fun H q => ⟨xs, ys, q.1, q.2, by omega⟩, fun i H v H' _ q y => ?_⟩
  obtain ⟨T, x, y, h1, h2, h3, h4, h5⟩ := y
  exact ⟨T, x, y, h1, h2, h3, h4 xs q.1, h5 ys q.2⟩
theorem walk_zipL (hn : n = min xs.length ys.length) : Walk (Itz K a b) n (fun H => SqL K H a xs ∧ SqL K H b ys) (YPair (fun i => xs[i]?) (fun i => ys[i]?)) := by
  refine ⟨fun i H hi q => ⟨xs, ys, xs[i]'(by omega), ys[i]'(by omega), q.1, q.2, by simp [show i < xs.length by omega], by simp [show i < ys.length by omega]⟩, fun H q => ⟨xs, ys, q.1, q.2, by omega⟩, fun i H v H' _ q y => ?_⟩
  obtain ⟨T, x, y, h1, h2, h3, h4, h5⟩ := y
  exact ⟨T, x, y, h1, h2, h3, h4 xs q.1, h5 ys q.2⟩
end
section
variable {K : PySem.W.Frag} {σ : L2.St} {H : Hp} {te : TE} {Q : VK} {xs ys : List V} {es : List PyData} {a b n : Nat} {N : List Addr}
theorem lcZW {J : It} {G : Hp → Prop} (w : Walk J n G (YPair (fun i => xs[i]?) (fun i => ys[i]?))) (hG : ∀ H', Same H H' → G H') (hN : Held N H) (es : List PyData) (hl : es.length = n) (few : n ≤ 900)
    (hw : ∀ x y, wipe (((wipe σ [a, b]).set a (some x)).set b (some y)) [a, b] = wipe σ [a, b])
    (hs : ∀ (i : Nat) (x y : V) (e : PyData) (D : Addr) (H1 : Hp), xs[i]? = some x → ys[i]? = some y → es[i]? = some e → Same H H1 → Held (D :: N) H1 → H D = none → ∀ P : VK, (∀ v H2, Same H1 H2 → Dv K (hide (D :: N) H2) v e → P v H2) → te (((wipe σ [a, b]).set a (some x)).set b (some y)) H1 P)
    (hd : ∀ D zs H1, Same H H1 → H D = none → H1 D = some (.lst zs) → DvAll K (hide N H1) zs es → DvAll K (hide (D :: N) H1) zs es → Q (.ref D) H1) : ∀ D, H D = none → ∃ W : Nat → Nat → Hp → Prop, (∃ m, W 0 m (upd H D (.lst []))) ∧ ∀ i m H, W i m H →
      (J.stop i H ∧ Q (.ref D) H) ∨ (J.go i H ∧ ∃ Nx : Hp → Prop, (∀ H', Nx H' → ∃ m', m' < m ∧ W (i + 1) m' H') ∧ ∀ x H', J.yld i H x H' → gTup K 2 (gCons (gName a) (gCons (gName b) gNil)) x (wipe σ [a, b]) H' fun σ2 H2 => wipe σ2 [a, b] = wipe σ [a, b] ∧ tYes σ2 H2 fun b H3 =>
        if b = true then te σ2 H3 fun y H4 => ∃ acc, H4 D = some (.lst acc) ∧ acc.length < sizeLine ∧ Nx (upd H4 D (.lst (acc ++ [y]))) else Nx H3) := by
  intro D hD
  refine lc_it w (fun i H1 => Same H H1 ∧ ∃ zs, H1 D = some (.lst zs) ∧ DvAll K (hide (D :: N) H1) zs (es.take i)) ⟨same_new hD, [], upd_same, .nil⟩ (fun i H1 _ h => hG H1 h.1) ?_ ?_
  · rintro i x H1 H2 hi ⟨s1, zs, e1, al⟩ ⟨T, y, z, rfl, hT, rfl, e2, e3⟩
    have sN := same_new (u := .tup [y, z]) hT
    refine ⟨T, _, rfl, sqT_at upd_same, rfl, _, _, rfl, _, _, rfl, rfl, hw _ _, ?_⟩
    refine r_yes ?_
    refine r_true (c := true) rfl ?_
    have hie : i < es.length := by omega
    have he := List.getElem?_eq_getElem hie
    refine hs i y z _ D _ e2 e3 he (s1.trans sN) (((hN.same s1).cons e1).same sN) hD _ fun v H3 s3 dy => ⟨_, s3 _ _ (sN _ _ e1), ?_, ?_, _, upd_same, ?_⟩
    · rw [al.len, List.length_take]; exact small_lt (by omega)
    · intro b o e; exact kpO (s3 _ _ (sN _ _ (s1 b o e))) (ne_of_none e hD)
    · rw [hide_upd, take_more he]
      exact DvAll.snoc dy (al.same (hide_same (sN.trans s3)))
  · rintro H1 ⟨s1, zs, e1, al⟩
    rw [List.take_of_length_le (by omega)] at al
    exact hd D zs H1 s1 hD e1 (al.same hide_less) al
variable {ta : TA} {A B : Addr}
theorem lcZT (hit : ∀ P : List V → Hp → Prop, P [.ref A, .ref B] H → ta σ H P) (hA : SqT K H A xs) (hB : SqT K H B ys) (hN : Held N H) (es : List PyData) (hl : es.length = min xs.length ys.length) (few : min xs.length ys.length ≤ 900)
    (hw : ∀ x y, wipe (((wipe σ [a, b]).set a (some x)).set b (some y)) [a, b] = wipe σ [a, b])
    (hs : ∀ (i : Nat) (x y : V) (e : PyData) (D : Addr) (H1 : Hp), xs[i]? = some x → ys[i]? = some y → es[i]? = some e → Same H H1 → Held (D :: N) H1 → H D = none → ∀ P : VK, (∀ v H2, Same H1 H2 → Dv K (hide (D :: N) H2) v e → P v H2) → te (((wipe σ [a, b]).set a (some x)).set b (some y)) H1 P)
    (hd : ∀ D zs H1, Same H H1 → H D = none → H1 D = some (.lst zs) → DvAll K (hide N H1) zs es → DvAll K (hide (D :: N) H1) zs es → Q (.ref D) H1) : tLc (iZipX K ta) (gTup K 2 (gCons (gName a) (gCons (gName b) gNil))) tYes te [a, b] σ H Q :=
  .inl (hit _ ⟨A, B, xs, ys, rfl, .inr ⟨hA, hB, lcZW (walk_zipA rfl) (fun H' s => ⟨Jv.Same.sqT s hA, Jv.Same.sqT s hB⟩) hN es hl few hw hs hd⟩⟩)
theorem lcZL (hit : ∀ P : List V → Hp → Prop, P [.ref A, .ref B] H → ta σ H P) (hA : SqL K H A xs) (hB : SqL K H B ys) (hN : Held N H) (es : List PyData) (hl : es.length = min xs.length ys.length) (few : min xs.length ys.length ≤ 900)
    (hw : ∀ x y, wipe (((wipe σ [a, b]).set a (some x)).set b (some y)) [a, b] = wipe σ [a, b])
    (hs : ∀ (i : Nat) (x y : V) (e : PyData) (D : Addr) (H1 : Hp), xs[i]? = some x → ys[i]? = some y → es[i]? = some e → Same H H1 → Held (D :: N) H1 → H D = none → ∀ P : VK, (∀ v H2, Same H1 H2 → Dv K (hide (D :: N) H2) v e → P v H2) → te (((wipe σ [a, b]).set a (some x)).set b (some y)) H1 P)
    (hd : ∀ D zs H1, Same H H1 → H D = none → H1 D = some (.lst zs) → DvAll K (hide N H1) zs es → DvAll K (hide (D :: N) H1) zs es → Q (.ref D) H1) : tLc (iZipX K ta) (gTup K 2 (gCons (gName a) (gCons (gName b) gNil))) tYes te [a, b] σ H Q :=
  .inl (hit _ ⟨A, B, xs, ys, rfl, .inl ⟨hA, hB, lcZW (walk_zipL rfl) (fun H' s => ⟨s.seq hA, s.seq hB⟩) hN es hl few hw hs hd⟩⟩)
theorem lcZM (hit : ∀ P : List V → Hp → Prop, P [.ref A, .ref B] H → ta σ H P) (hA : SqT K H A xs) (hB : SqL K H B ys) (hN : Held N H) (es : List PyData) (hl : es.length = min xs.length ys.length) (few : min xs.length ys.length ≤ 900)
    (hw : ∀ x y, wipe (((wipe σ [a, b]).set a (some x)).set b (some y)) [a, b] = wipe σ [a, b])
    (hs : ∀ (i : Nat) (x y : V) (e : PyData) (D : Addr) (H1 : Hp), xs[i]? = some x → ys[i]? = some y → es[i]? = some e → Same H H1 → Held (D :: N) H1 → H D = none → ∀ P : VK, (∀ v H2, Same H1 H2 → Dv K (hide (D :: N) H2) v e → P v H2) → te (((wipe σ [a, b]).set a (some x)).set b (some y)) H1 P)
    (hd : ∀ D zs H1, Same H H1 → H D = none → H1 D = some (.lst zs) → DvAll K (hide N H1) zs es → DvAll K (hide (D :: N) H1) zs es → Q (.ref D) H1) : tLc (iZipX K ta) (gTup K 2 (gCons (gName a) (gCons (gName b) gNil))) tYes te [a, b] σ H Q :=
  .inr (hit _ ⟨A, B, xs, ys, rfl, hA, hB, lcZW (walk_zipM rfl) (fun H' s => ⟨Jv.Same.sqT s hA, s.seq hB⟩) hN es hl few hw hs hd⟩)
variable {g : TG} {tb : TS} {D : Ends}
abbrev Wz (g : TG) (tb : TS) (D : Ends) (σ : L2.St) : It → Hp → Prop := fun it H1 => ∃ W : Nat → Nat → L2.St → Hp → Prop, (∃ m, W 0 m σ H1) ∧ ∀ i m σ H, W i m σ H →
      (it.stop i H ∧ D.nx σ H) ∨ (it.go i H ∧ ∃ N : L2.St → Hp → Prop, (∀ σ' H', N σ' H' → ∃ m', m' < m ∧ W (i + 1) m' σ' H') ∧ ∀ x H', it.yld i H x H' → g x σ H' fun σ2 H2 => tb { D with nx := N, ct := N, bk := D.nx } σ2 H2)
theorem forZT (hit : ∀ P : List V → Hp → Prop, P [.ref A, .ref B] H → ta σ H P) (Pv : Nat → L2.St → Hp → Prop) (h0 : Pv 0 σ H) (hn : n = min xs.length ys.length) (hq : ∀ i σ H, Pv i σ H → SqT K H A xs ∧ SqT K H B ys)
    (hs : ∀ (j : Nat) (x y : V) (T : Addr) (σ' : L2.St) (H' : Hp), xs[j]? = some x → ys[j]? = some y → H' T = none → Pv j σ' H' → g (.ref T) σ' (upd H' T (.tup [x, y])) fun σ2 H2 => tb { D with nx := Pv (j + 1), ct := Pv (j + 1), bk := D.nx } σ2 H2) (hd : ∀ σ' H', Pv n σ' H' → D.nx σ' H') :
    iZipX K ta σ H (Wz g tb D σ) :=
  .inl (hit _ ⟨A, B, xs, ys, rfl, .inr ⟨(hq _ _ _ h0).1, (hq _ _ _ h0).2, for_it (walk_zipA hn) Pv h0 (fun j σ' H' _ p => hq j σ' H' p) (fun j v σ1 H1 H2 _ p ⟨T, y, z, e1, hT, e2, e3, e4⟩ => by subst e1 e2; exact hs j y z T σ1 H1 e3 e4 hT p) hd⟩⟩)
theorem forZL (hit : ∀ P : List V → Hp → Prop, P [.ref A, .ref B] H → ta σ H P) (Pv : Nat → L2.St → Hp → Prop) (h0 : Pv 0 σ H) (hn : n = min xs.length ys.length) (hq : ∀ i σ H, Pv i σ H → SqL K H A xs ∧ SqL K H B ys)
    (hs : ∀ (j : Nat) (x y : V) (T : Addr) (σ' : L2.St) (H' : Hp), xs[j]? = some x → ys[j]? = some y → H' T = none → Pv j σ' H' → g (.ref T) σ' (upd H' T (.tup [x, y])) fun σ2 H2 => tb { D with nx := Pv (j + 1), ct := Pv (j + 1), bk := D.nx } σ2 H2) (hd : ∀ σ' H', Pv n σ' H' → D.nx σ' H') :
    iZipX K ta σ H (Wz g tb D σ) :=
  .inl (hit _ ⟨A, B, xs, ys, rfl, .inl ⟨(hq _ _ _ h0).1, (hq _ _ _ h0).2, for_it (walk_zipL hn) Pv h0 (fun j σ' H' _ p => hq j σ' H' p) (fun j v σ1 H1 H2 _ p ⟨T, y, z, e1, hT, e2, e3, e4⟩ => by subst e1 e2; exact hs j y z T σ1 H1 e3 e4 hT p) hd⟩⟩)
theorem forZM (hit : ∀ P : List V → Hp → Prop, P [.ref A, .ref B] H → ta σ H P) (Pv : Nat → L2.St → Hp → Prop) (h0 : Pv 0 σ H) (hn : n = min xs.length ys.length) (hq : ∀ i σ H, Pv i σ H → SqT K H A xs ∧ SqL K H B ys)
    (hs : ∀ (j : Nat) (x y : V) (T : Addr) (σ' : L2.St) (H' : Hp), xs[j]? = some x → ys[j]? = some y → H' T = none → Pv j σ' H' → g (.ref T) σ' (upd H' T (.tup [x, y])) fun σ2 H2 => tb { D with nx := Pv (j + 1), ct := Pv (j + 1), bk := D.nx } σ2 H2) (hd : ∀ σ' H', Pv n σ' H' → D.nx σ' H') :
    iZipX K ta σ H (Wz g tb D σ) :=
  .inr (hit _ ⟨A, B, xs, ys, rfl, (hq _ _ _ h0).1, (hq _ _ _ h0).2, for_it (walk_zipM hn) Pv h0 (fun j σ' H' _ p => hq j σ' H' p) (fun j v σ1 H1 H2 _ p ⟨T, y, z, e1, hT, e2, e3, e4⟩ => by subst e1 e2; exact hs j y z T σ1 H1 e3 e4 hT p) hd⟩)
end
end Jv

/-! ### a tuple that is not empty, repeated once or more often -/
namespace Jv
open PySem PySem.Spec PyProof.Rows L2
open PySem.Sem (wp)
theorem tuple_mul1 (l : Addr) (items : Array Value) (n : Nat) (dd : Option Addr) (sl : Array (Option Value)) (u : Tok) :
    Meets (Builtin.«tuple.__mul__» ⟨[.ref l, .int 1 u], []⟩) (fun _ R s => s.heap.get? l = some { cls := .type "tuple", dict := dd, data := .seq items n, slots := sl } ∧ R (.ok (.ret (Value.ref l))) s) :=
  .of_wp fun prog w A R s h => by
    obtain ⟨hp, g, d, tk, os⟩ := s
    obtain ⟨hl, h⟩ := h
    have f1 := AutoSeq1.idx_int
    have c0 : (decide ((1 : Int) < -(2 ^ 63)) || decide ((1 : Int) ≥ 2 ^ 63)) = false := by decide
    have c1 : (items.isEmpty || (1 : Int) == 1) = true := by rw [Bool.or_eq_true]; exact .inr rfl
    wp_walk using wpAny_loadPart' hl
    repeat (first
      | (refine wpAny_ite_false (decide_eq_false (by rw [c0]; exact Bool.false_ne_true)) ?_; wp_walk using wpAny_loadPart' hl)
      | (refine wpAny_ite_true (decide_eq_true (by rw [c1])) ?_; wp_walk using wpAny_loadPart' hl))
    exact ⟨_, rfl, h⟩
def rRepA (K : PySem.W.Frag) : R2 := fun x y H Q => (∃ l xs, x = .ref l ∧ y = .int 1 ∧ SqT K H l xs ∧ Q (.ref l) H) ∨ rRepT K x y H Q
theorem op_repA {X : Cx} : OpR X (binaryOp .Mult) (rRepA X.K) := by
  intro pins s σ H x y v u Q I rx ry h
  rcases h with ⟨l, xs, rfl, rfl, hT, q⟩ | h
  case inr => exact op_repT pins s σ H x y v u Q I rx ry h
  cases rx
  obtain ⟨t, rfl⟩ := ry
  obtain ⟨its, r, ⟨⟨cls, dd, data, sl⟩, ho, hc, n, hd⟩, hs⟩ := I.tuple hT
  simp only at hc hd
  subst hc hd
  exact wpAny_binaryOp_repeat_ref (T := "tuple") (U := "int") (by decide) ⟨_, ho, rfl⟩ (fun s' => typeIs_int s' 1 t) noFill_tuple_mul F.fills_int_mul F.slot_int_rmul repeat_tuple F.slot_int_index.lookup
    (call_meets F.slot_int_rmul (typeIs_int s 1 t) F.entry_int_rmul (F.args_int_rmul_2 _ _) (int_rmul_tuple 1 t l its.toArray n dd sl)
      ⟨ho, rfl, ⟨_, ho, rfl⟩, call_meets F.slot_tuple_mul ⟨_, ho, rfl⟩ F.entry_tuple_mul (F.args_tuple_mul_2 _ _) (tuple_mul1 l its.toArray n dd sl t) ⟨ho, ⟨.ref l, _, I, rfl, q⟩⟩⟩)
end Jv

/-! ### the walk through a reading -/
local macro_rules | `(tactic| walk_at "r1") => `(tactic| first
  | with_reducible refine Jv.r_seq ?_
  | with_reducible refine Jv.r_asg ?_
  | with_reducible refine Jv.r_gn ?_
  | with_reducible refine Jv.r_ret ?_
  | with_reducible refine Jv.r_retN ?_
  | with_reducible refine Jv.r_drop ?_
  | with_reducible refine Jv.r_if ?_
  | with_reducible refine Jv.r_next ?_
  | with_reducible refine Jv.r_brk ?_
  | with_reducible refine Jv.r_cont ?_
  | ((with_reducible refine' Jv.r_var ?hv ?_); (case hv => rfl))
  | with_reducible refine Jv.r_c ?_
  | with_reducible refine Jv.r_op ?_
  | with_reducible refine Jv.r_un ?_
  | with_reducible refine Jv.r_I0 ?_
  | with_reducible refine Jv.r_U ?_
  | ((with_reducible refine Jv.r_eq ?hs ?_); (case hs => rfl))
  | ((with_reducible refine Jv.r_ne ?hs ?_); (case hs => rfl))
  | with_reducible refine Jv.r_test ?_
  | with_reducible refine Jv.r_B ?_
  | with_reducible refine Jv.r_bl ?_
  | with_reducible refine Jv.r_and ?_
  | with_reducible refine Jv.r_or ?_
  | with_reducible refine Jv.r_not ?_
  | with_reducible refine Jv.r_andV ?_
  | with_reducible refine Jv.r_orV ?_
  | with_reducible refine Jv.r_notV ?_
  | with_reducible refine Jv.r_ife ?_
  | with_reducible refine Jv.r_chain ?_
  | with_reducible refine Jv.r_nil ?_
  | with_reducible refine Jv.r_cons ?_
  | with_reducible refine Jv.r_tup ?_
  | with_reducible refine Jv.r_lst ?_
  | with_reducible refine Jv.r_CB ?_
  | with_reducible refine Jv.r_call ?_
  | with_reducible refine Jv.r_callS ?_
  | with_reducible refine Jv.r_for ?_
  | with_reducible refine Jv.r_iR1 ?_
  | with_reducible refine Jv.r_iR2 ?_
  | with_reducible refine Jv.r_sub ?_
  | with_reducible refine Jv.r_int ?_)
local macro_rules | `(tactic| walk_at "r") => `(tactic| (repeat walk_at "r1"))

local macro_rules | `(tactic| walk_at "cond") => `(tactic| first
  | exact Or.inr ⟨by decide, by decide⟩
  | exact Or.inl ⟨by decide, by decide⟩
  | exact ⟨by decide, by decide⟩
  | exact ⟨by assumption, by assumption⟩
  | exact ⟨by decide, by decide, by decide⟩
  | (show (0 : Int) < _; first | decide | omega)
  | exact Jv.cdivS (by omega) (by omega)
  | exact Or.inr ⟨by omega, by omega⟩
  | exact Or.inl ⟨by omega, by omega⟩)
local macro_rules | `(tactic| walk_at "r1") => `(tactic| ((with_reducible refine Jv.r_I ?hc ?_); (case hc => walk_at "cond")))

local macro_rules | `(tactic| walk_at "ne") => `(tactic| first
  | assumption
  | exact Ne.symm (by assumption)
  | exact L2.ne_of_none (by walk_at "hp") (by assumption)
  | exact Ne.symm (L2.ne_of_none (by walk_at "hp") (by assumption)))
local macro_rules | `(tactic| walk_at "hp") => `(tactic| first
  | assumption
  | exact L2.upd_same
  | ((refine' Jv.kp ?hp1 ?hp2); (case hp2 => assumption); (case hp1 => walk_at "hp"))
  | ((refine' Jv.kpO ?hp1 ?hp2); (case hp1 => walk_at "hp"); (case hp2 => walk_at "ne")))
local macro_rules | `(tactic| walk_at "sq") => `(tactic| first
  | assumption
  | ((refine' Jv.sqT_at ?sq1); (case sq1 => walk_at "hp"))
  | ((refine' Jv.sqL_at ?sq1); (case sq1 => walk_at "hp"))
  | ((refine' Jv.sqT_new ?sq1 ?sq2); (case sq2 => assumption); (case sq1 => walk_at "sq"))
  | ((refine' Jv.sqL_new ?sq1 ?sq2); (case sq2 => assumption); (case sq1 => walk_at "sq"))
  | ((refine' L2.Same.seq ?sq1 ?sq2); (case sq1 => assumption); (case sq2 => assumption))
  | ((refine' Jv.Same.sqT ?sq1 ?sq2); (case sq1 => assumption); (case sq2 => assumption)))
local macro_rules | `(tactic| walk_at "r1") => `(tactic| first
  | ((with_reducible refine' Jv.r_gtup ?hq ?hl ?_); (case hq => walk_at "sq"); (case hl => rfl))
  | with_reducible refine Jv.r_gcons ?_
  | with_reducible refine Jv.r_gnil ?_
  | with_reducible refine Jv.r_iEn ?_
  | with_reducible refine Jv.r_iL ?_
  | with_reducible refine Jv.r_iT ?_
  | with_reducible refine Jv.r_yes ?_
  | with_reducible refine Jv.r_ift ?_
  | with_reducible refine Jv.r_iff ?_
  | ((with_reducible refine' Jv.r_new ?hn ?_); (case hn => exact Nat.le_of_ble_eq_true rfl))
  | ((with_reducible refine' Jv.r_wipe ?he ?_); (case he => rfl)))
local macro_rules | `(tactic| walk_at "len") => `(tactic| first
  | exact Or.inl (by walk_at "sq")
  | exact Or.inr (by walk_at "sq"))
local macro_rules | `(tactic| walk_at "r1") => `(tactic| first
  | ((with_reducible refine' Jv.r_ixL ?hs ?he ?_); (case hs => walk_at "sq"); (case he => rfl))
  | ((with_reducible refine' Jv.r_ixT ?hs ?he ?_); (case hs => walk_at "sq"); (case he => rfl))
  | ((with_reducible refine' Jv.r_setL ?hs ?he ?_); (case hs => walk_at "hp"); (case he => rfl))
  | ((with_reducible refine' Jv.r_len ?hs ?_); (case hs => walk_at "len")))
local macro_rules | `(tactic| walk_at "th") => `(tactic| first
  | assumption
  | exact Jv.Th.same (by assumption) (by assumption)
  | exact Jv.Th.same (by assumption) (Jv.same_new (by assumption))
  | exact trivial)
local macro_rules | `(tactic| walk_at "r1") => `(tactic| first
  | ((with_reducible refine' Jv.r_isB ?hx ?_); (case hx => walk_at "th"))
  | ((with_reducible refine' Jv.r_isI ?hx ?_); (case hx => walk_at "th"))
  | ((with_reducible refine' Jv.r_isS ?hp ?hx ?_); (case hp => walk_at "hp"); (case hx => walk_at "th"))
  | ((with_reducible refine' Jv.r_false ?he ?_); (case he => rfl))
  | ((with_reducible refine' Jv.r_true ?he ?_); (case he => rfl))
  | with_reducible refine Jv.r_rfl ?_)
local macro_rules | `(tactic| walk_at "r2") => `(tactic| first
  | walk_at "r1"
  | ((with_reducible refine' Jv.r_dec1 ?hd ?_); (case hd => omega))
  | ((with_reducible refine' Jv.r_dec0 ?hd ?_); (case hd => omega))
  | with_reducible refine Jv.r_decI (fun _ => ?_) (fun _ => ?_)
  | with_reducible refine Jv.r_ndecI (fun _ => ?_) (fun _ => ?_)
  | with_reducible refine Jv.r_dec (fun _ => ?_) (fun _ => ?_)
  | with_reducible refine Jv.r_ndec (fun _ => ?_) (fun _ => ?_))
local macro_rules | `(tactic| walk_at "rr") => `(tactic| (repeat' walk_at "r2"))
local macro_rules | `(tactic| walk_at "r1") => `(tactic| first
  | with_reducible refine Jv.r_min ?_
  | with_reducible refine Jv.r_max ?_
  | with_reducible refine Jv.r_absN ?_
  | with_reducible refine Jv.r_intN ?_)
local macro_rules | `(tactic| walk_at "r1") => `(tactic| first
  | with_reducible refine Jv.r_bm ?_
  | ((with_reducible refine' Jv.r_tyL ?hp ?_); (case hp => walk_at "hp")))

local macro_rules | `(tactic| walk_at "r1") => `(tactic| first
  | with_reducible refine Jv.r_callN ?_
  | with_reducible refine Jv.r_disp1 ?_
  | with_reducible refine Jv.r_same ?_)

local macro_rules | `(tactic| walk_at "dv") => `(tactic| first
  | assumption
  | exact Jv.Dv.same (by assumption) (by assumption)
  | exact Jv.Dv.same (Jv.same_new (by assumption)) (by assumption)
  | exact Jv.Dv.int _
  | exact Jv.Dv.non
  | exact Jv.Dv.bl _)
local macro_rules | `(tactic| walk_at "r1") => `(tactic| first
  | ((with_reducible refine' Jv.d_isB ?hx ?_); (case hx => walk_at "dv"))
  | ((with_reducible refine' Jv.d_isI ?hx ?_); (case hx => walk_at "dv"))
  | ((with_reducible refine' Jv.d_isS ?hp ?hx ?_); (case hp => walk_at "hp"); (case hx => walk_at "dv")))

namespace K50
open PySem PySem.Spec PyProof.Rows L2
def topS (i : Nat) : Stmt := PySem.Challenge.pw_risingcalls_k50_weights_floors_and_cheap.main.body.getD i (.Pass ⟨0, 0, 0, 0⟩)
abbrev s_BadGoalsu_initu : Stmt := inClass (topS 3) 0
abbrev s_BadLotu_initu : Stmt := inClass (topS 4) 0
abbrev s_NotAlikeu_initu : Stmt := inClass (topS 6) 0
abbrev s_BadCostsu_initu : Stmt := inClass (topS 7) 0
abbrev s_BadWeightsu_initu : Stmt := inClass (topS 8) 0
abbrev s_is_whole : Stmt := topS 15
abbrev s_is_truth : Stmt := topS 16
abbrev s_is_sequence : Stmt := topS 17
abbrev s_check_side : Stmt := topS 18
abbrev s_are_sides : Stmt := topS 19
abbrev s_couples_of : Stmt := topS 20
abbrev s_are_kinds : Stmt := topS 21
abbrev s_is_order : Stmt := topS 22
abbrev s_check_side_order : Stmt := topS 23
abbrev s_sides_of_lines : Stmt := topS 25
abbrev s_renumbered_lines : Stmt := topS 26
abbrev s_are_ends : Stmt := topS 27
abbrev s_is_knowing : Stmt := topS 28
abbrev s_Goalsu_initu : Stmt := inClass (topS 29) 0
abbrev s_Goalsu_equ : Stmt := inClass (topS 29) 1
abbrev s_Goals_renumbered : Stmt := inClass (topS 29) 6
abbrev s_is_entry : Stmt := topS 33
abbrev s_Costsu_initu : Stmt := inClass (topS 34) 0
abbrev s_Costsu_equ : Stmt := inClass (topS 34) 1
abbrev s_Costs_added : Stmt := inClass (topS 34) 3
abbrev s_Costs_renumbered : Stmt := inClass (topS 34) 4
abbrev s_Weightsu_initu : Stmt := inClass (topS 35) 0
abbrev s_Weightsu_equ : Stmt := inClass (topS 35) 1
abbrev s_Weights_weight_sum : Stmt := inClass (topS 35) 2
abbrev s_Weights_even : Stmt := inClass (topS 35) 3
abbrev s_Weights_plus : Stmt := inClass (topS 35) 4
abbrev s_Weights_times : Stmt := inClass (topS 35) 5
abbrev s_Weights_renumbered : Stmt := inClass (topS 35) 6
abbrev s_check_weights : Stmt := topS 36
abbrev s_ends_up_to : Stmt := topS 37
abbrev s_floor_of : Stmt := topS 38
abbrev s_cheapest_goals : Stmt := topS 39
abbrev s_as_goals : Stmt := topS 40
abbrev s_Lmix : Stmt := topS 42
abbrev s_Lhand : Stmt := topS 43
abbrev s_Ldraw : Stmt := topS 44
abbrev s_Lwhole : Stmt := topS 45
abbrev s_Lshape : Stmt := topS 46
abbrev s_Ldrawn : Stmt := topS 47
abbrev s_Ltuples : Stmt := topS 48
abbrev s_Ldue : Stmt := topS 49
abbrev s_Lmade : Stmt := topS 50
abbrev s_Lmade_due : Stmt := topS 51
abbrev s_Lspoil : Stmt := topS 52
abbrev s_Lplus : Stmt := topS 53
abbrev s_Ltimes : Stmt := topS 54
abbrev s_Leven : Stmt := topS 55
abbrev s_Lrenumbered : Stmt := topS 56
abbrev s_Ladded_due : Stmt := topS 57
abbrev s_Lorder : Stmt := topS 58
abbrev s_Lweights : Stmt := topS 59
abbrev s_Lturned : Stmt := topS 60
abbrev s_Lcosts : Stmt := topS 61
abbrev s_Lup_to : Stmt := topS 62
abbrev s_Las_goals : Stmt := topS 63
abbrev s_Lgoals : Stmt := topS 64
abbrev s_Lunlike : Stmt := topS 65
abbrev s_Lcase : Stmt := topS 66
abbrev s_law : Stmt := topS 67
theorem sc_BadGoalsu_initu : FnScope ["self", "what"] ["self", "what"] (defScope s_BadGoalsu_initu) := ⟨rfl, rfl, rfl, by decide +kernel, rfl, by decide +kernel, by decide +kernel⟩
theorem sc_BadLotu_initu : FnScope ["self", "side"] ["self", "side"] (defScope s_BadLotu_initu) := ⟨rfl, rfl, rfl, by decide +kernel, rfl, by decide +kernel, by decide +kernel⟩
theorem sc_NotAlikeu_initu : FnScope ["self", "what"] ["self", "what"] (defScope s_NotAlikeu_initu) := ⟨rfl, rfl, rfl, by decide +kernel, rfl, by decide +kernel, by decide +kernel⟩
theorem sc_BadCostsu_initu : FnScope ["self", "what"] ["self", "what"] (defScope s_BadCostsu_initu) := ⟨rfl, rfl, rfl, by decide +kernel, rfl, by decide +kernel, by decide +kernel⟩
theorem sc_BadWeightsu_initu : FnScope ["self", "what"] ["self", "what"] (defScope s_BadWeightsu_initu) := ⟨rfl, rfl, rfl, by decide +kernel, rfl, by decide +kernel, by decide +kernel⟩
theorem sc_is_whole : FnScope ["thing", "low", "high"] ["thing", "low", "high"] (defScope s_is_whole) := ⟨rfl, rfl, rfl, by decide +kernel, rfl, by decide +kernel, by decide +kernel⟩
theorem sc_is_truth : FnScope ["thing"] ["thing"] (defScope s_is_truth) := ⟨rfl, rfl, rfl, by decide +kernel, rfl, by decide +kernel, by decide +kernel⟩
theorem sc_is_sequence : FnScope ["thing"] ["thing"] (defScope s_is_sequence) := ⟨rfl, rfl, rfl, by decide +kernel, rfl, by decide +kernel, by decide +kernel⟩
theorem sc_check_side : FnScope ["side"] ["side"] (defScope s_check_side) := ⟨rfl, rfl, rfl, by decide +kernel, rfl, by decide +kernel, by decide +kernel⟩
theorem sc_are_sides : FnScope ["thing", "kinds"] ["thing"] (defScope s_are_sides) := ⟨rfl, rfl, rfl, by decide +kernel, rfl, by decide +kernel, by decide +kernel⟩
theorem sc_couples_of : FnScope ["sides", "east", "west"] ["sides"] (defScope s_couples_of) := ⟨rfl, rfl, rfl, by decide +kernel, rfl, by decide +kernel, by decide +kernel⟩
theorem sc_are_kinds : FnScope ["thing", "kinds", "kind"] ["thing", "kinds"] (defScope s_are_kinds) := ⟨rfl, rfl, rfl, by decide +kernel, rfl, by decide +kernel, by decide +kernel⟩
theorem sc_is_order : FnScope ["thing", "many"] ["thing", "many"] (defScope s_is_order) := ⟨rfl, rfl, rfl, by decide +kernel, rfl, by decide +kernel, by decide +kernel⟩
theorem sc_check_side_order : FnScope ["order", "kinds", "side"] ["order", "kinds", "side"] (defScope s_check_side_order) := ⟨rfl, rfl, rfl, by decide +kernel, rfl, by decide +kernel, by decide +kernel⟩
theorem sc_sides_of_lines : FnScope ["lines", "lengths", "line"] ["lines"] (defScope s_sides_of_lines) := ⟨rfl, rfl, rfl, by decide +kernel, rfl, by decide +kernel, by decide +kernel⟩
theorem sc_renumbered_lines : FnScope ["lines", "side", "order", "line", "kind"] ["lines", "side", "order"] (defScope s_renumbered_lines) := ⟨rfl, rfl, rfl, by decide +kernel, rfl, by decide +kernel, by decide +kernel⟩
theorem sc_are_ends : FnScope ["thing", "ladder", "end"] ["thing", "ladder"] (defScope s_are_ends) := ⟨rfl, rfl, rfl, by decide +kernel, rfl, by decide +kernel, by decide +kernel⟩
theorem sc_is_knowing : FnScope ["thing", "part"] ["thing"] (defScope s_is_knowing) := ⟨rfl, rfl, rfl, by decide +kernel, rfl, by decide +kernel, by decide +kernel⟩
theorem sc_Goalsu_initu : FnScope ["self", "ladder", "wanted", "knows", "sides", "line", "ends"] ["self", "ladder", "wanted", "knows"] (defScope s_Goalsu_initu) := ⟨rfl, rfl, rfl, by decide +kernel, rfl, by decide +kernel, by decide +kernel⟩
theorem sc_Goalsu_equ : FnScope ["self", "other"] ["self", "other"] (defScope s_Goalsu_equ) := ⟨rfl, rfl, rfl, by decide +kernel, rfl, by decide +kernel, by decide +kernel⟩
theorem sc_Goals_renumbered : FnScope ["self", "side", "order", "turned"] ["self", "side", "order"] (defScope s_Goals_renumbered) := ⟨rfl, rfl, rfl, by decide +kernel, rfl, by decide +kernel, by decide +kernel⟩
theorem sc_is_entry : FnScope ["thing", "ladder", "cost"] ["thing", "ladder"] (defScope s_is_entry) := ⟨rfl, rfl, rfl, by decide +kernel, rfl, by decide +kernel, by decide +kernel⟩
theorem sc_Costsu_initu : FnScope ["self", "ladder", "lines", "sides", "line", "entry"] ["self", "ladder", "lines"] (defScope s_Costsu_initu) := ⟨rfl, rfl, rfl, by decide +kernel, rfl, by decide +kernel, by decide +kernel⟩
theorem sc_Costsu_equ : FnScope ["self", "other"] ["self", "other"] (defScope s_Costsu_equ) := ⟨rfl, rfl, rfl, by decide +kernel, rfl, by decide +kernel, by decide +kernel⟩
theorem sc_Costs_added : FnScope ["self", "amount", "line", "entry", "cost"] ["self", "amount"] (defScope s_Costs_added) := ⟨rfl, rfl, rfl, by decide +kernel, rfl, by decide +kernel, by decide +kernel⟩
theorem sc_Costs_renumbered : FnScope ["self", "side", "order", "turned"] ["self", "side", "order"] (defScope s_Costs_renumbered) := ⟨rfl, rfl, rfl, by decide +kernel, rfl, by decide +kernel, by decide +kernel⟩
theorem sc_Weightsu_initu : FnScope ["self", "lines", "sides", "line", "weight"] ["self", "lines"] (defScope s_Weightsu_initu) := ⟨rfl, rfl, rfl, by decide +kernel, rfl, by decide +kernel, by decide +kernel⟩
theorem sc_Weightsu_equ : FnScope ["self", "other"] ["self", "other"] (defScope s_Weightsu_equ) := ⟨rfl, rfl, rfl, by decide +kernel, rfl, by decide +kernel, by decide +kernel⟩
theorem sc_Weights_weight_sum : FnScope ["self", "line"] ["self"] (defScope s_Weights_weight_sum) := ⟨rfl, rfl, rfl, by decide +kernel, rfl, by decide +kernel, by decide +kernel⟩
theorem sc_Weights_even : FnScope ["sides"] ["sides"] (defScope s_Weights_even) := ⟨rfl, rfl, rfl, by decide +kernel, rfl, by decide +kernel, by decide +kernel⟩
theorem sc_Weights_plus : FnScope ["self", "other", "sums", "line", "others", "one", "more"] ["self", "other"] (defScope s_Weights_plus) := ⟨rfl, rfl, rfl, by decide +kernel, rfl, by decide +kernel, by decide +kernel⟩
theorem sc_Weights_times : FnScope ["self", "size", "line", "weight"] ["self", "size"] (defScope s_Weights_times) := ⟨rfl, rfl, rfl, by decide +kernel, rfl, by decide +kernel, by decide +kernel⟩
theorem sc_Weights_renumbered : FnScope ["self", "side", "order", "turned"] ["self", "side", "order"] (defScope s_Weights_renumbered) := ⟨rfl, rfl, rfl, by decide +kernel, rfl, by decide +kernel, by decide +kernel⟩
theorem sc_check_weights : FnScope ["costs", "weights"] ["costs", "weights"] (defScope s_check_weights) := ⟨rfl, rfl, rfl, by decide +kernel, rfl, by decide +kernel, by decide +kernel⟩
theorem sc_ends_up_to : FnScope ["entry", "cost", "end", "price"] ["entry", "cost"] (defScope s_ends_up_to) := ⟨rfl, rfl, rfl, by decide +kernel, rfl, by decide +kernel, by decide +kernel⟩
theorem sc_floor_of : FnScope ["costs", "weights", "couples", "east", "west"] ["costs", "weights"] (defScope s_floor_of) := ⟨rfl, rfl, rfl, by decide +kernel, rfl, by decide +kernel, by decide +kernel⟩
theorem sc_cheapest_goals : FnScope ["costs", "weights", "wanted", "line", "shares", "lets", "entry", "share", "let"] ["costs", "weights"] (defScope s_cheapest_goals) := ⟨rfl, rfl, rfl, by decide +kernel, rfl, by decide +kernel, by decide +kernel⟩
theorem sc_as_goals : FnScope ["costs", "cost", "line", "entry"] ["costs", "cost"] (defScope s_as_goals) := ⟨rfl, rfl, rfl, by decide +kernel, rfl, by decide +kernel, by decide +kernel⟩
theorem sc_Lmix : FnScope ["_law_number", "_law_turn", "_law_once", "_law_twice"] ["_law_number", "_law_turn"] (defScope s_Lmix) := ⟨rfl, rfl, rfl, by decide +kernel, rfl, by decide +kernel, by decide +kernel⟩
theorem sc_Lhand : FnScope ["_law_script", "_law_total", "_law_k", "_law_cell"] ["_law_script"] (defScope s_Lhand) := ⟨rfl, rfl, rfl, by decide +kernel, rfl, by decide +kernel, by decide +kernel⟩
theorem sc_Ldraw : FnScope ["_law_hand_here", "_law_many", "_law_cell", "_law_rest"] ["_law_hand_here", "_law_many"] (defScope s_Ldraw) := ⟨rfl, rfl, rfl, by decide +kernel, rfl, by decide +kernel, by decide +kernel⟩
theorem sc_Lwhole : FnScope ["_law_thing"] ["_law_thing"] (defScope s_Lwhole) := ⟨rfl, rfl, rfl, by decide +kernel, rfl, by decide +kernel, by decide +kernel⟩
theorem sc_Lshape : FnScope ["_law_hand_here"] ["_law_hand_here"] (defScope s_Lshape) := ⟨rfl, rfl, rfl, by decide +kernel, rfl, by decide +kernel, by decide +kernel⟩
theorem sc_Ldrawn : FnScope ["_law_hand_here", "_law_sides", "_law_most", "_law_lines", "_law_east", "_law_line", "_law_west"] ["_law_hand_here", "_law_sides"] (defScope s_Ldrawn) := ⟨rfl, rfl, rfl, by decide +kernel, rfl, by decide +kernel, by decide +kernel⟩
theorem sc_Ltuples : FnScope ["_law_lines", "_law_line"] ["_law_lines"] (defScope s_Ltuples) := ⟨rfl, rfl, rfl, by decide +kernel, rfl, by decide +kernel, by decide +kernel⟩
theorem sc_Ldue : FnScope ["_law_lines", "_law_line", "_law_weight"] ["_law_lines"] (defScope s_Ldue) := ⟨rfl, rfl, rfl, by decide +kernel, rfl, by decide +kernel, by decide +kernel⟩
theorem sc_Lmade : FnScope ["_law_lines", "e"] ["_law_lines"] (defScope s_Lmade) := ⟨rfl, rfl, rfl, by decide +kernel, rfl, by decide +kernel, by decide +kernel⟩
theorem sc_Lmade_due : FnScope ["_law_lines", "_law_word"] ["_law_lines"] (defScope s_Lmade_due) := ⟨rfl, rfl, rfl, by decide +kernel, rfl, by decide +kernel, by decide +kernel⟩
theorem sc_Lspoil : FnScope ["_law_hand_here", "_law_lines", "_law_kept", "_law_way", "_law_east", "_law_odd", "_law_line"] ["_law_hand_here", "_law_lines"] (defScope s_Lspoil) := ⟨rfl, rfl, rfl, by decide +kernel, rfl, by decide +kernel, by decide +kernel⟩
theorem sc_Lplus : FnScope ["_law_one", "_law_other", "e"] ["_law_one", "_law_other"] (defScope s_Lplus) := ⟨rfl, rfl, rfl, by decide +kernel, rfl, by decide +kernel, by decide +kernel⟩
theorem sc_Ltimes : FnScope ["_law_one", "_law_size", "e"] ["_law_one", "_law_size"] (defScope s_Ltimes) := ⟨rfl, rfl, rfl, by decide +kernel, rfl, by decide +kernel, by decide +kernel⟩
theorem sc_Leven : FnScope ["_law_sides", "e"] ["_law_sides"] (defScope s_Leven) := ⟨rfl, rfl, rfl, by decide +kernel, rfl, by decide +kernel, by decide +kernel⟩
theorem sc_Lrenumbered : FnScope ["_law_weights_here", "_law_side", "_law_order_here", "e"] ["_law_weights_here", "_law_side", "_law_order_here"] (defScope s_Lrenumbered) := ⟨rfl, rfl, rfl, by decide +kernel, rfl, by decide +kernel, by decide +kernel⟩
theorem sc_Ladded_due : FnScope ["_law_one", "_law_other", "_law_sums", "_law_line", "_law_more", "_law_first", "_law_second"] ["_law_one", "_law_other"] (defScope s_Ladded_due) := ⟨rfl, rfl, rfl, by decide +kernel, rfl, by decide +kernel, by decide +kernel⟩
theorem sc_Lorder : FnScope ["_law_hand_here", "_law_many", "_law_rest", "_law_order_here", "_law_turn"] ["_law_hand_here", "_law_many"] (defScope s_Lorder) := ⟨rfl, rfl, rfl, by decide +kernel, rfl, by decide +kernel, by decide +kernel⟩
theorem sc_Lweights : FnScope ["_law_hand_here", "_law_sides", "_law_lines", "_law_handed", "_law_weights_here", "_law_due_here", "_law_total", "_law_turn", "_law_spoilt", "_law_other", "_law_size", "_law_product", "_law_wanted", "_law_asked", "_law_at", "_law_each", "_law_right", "_law_line", "_law_weight", "_law_kind"] ["_law_hand_here", "_law_sides", "_law_lines"] (defScope s_Lweights) := ⟨rfl, rfl, rfl, by decide +kernel, rfl, by decide +kernel, by decide +kernel⟩
theorem sc_Lturned : FnScope ["_law_hand_here", "_law_weights_here", "_law_lines", "_law_side", "_law_order_here", "_law_turned_here", "_law_asked", "_law_kind", "_law_line"] ["_law_hand_here", "_law_weights_here", "_law_lines"] (defScope s_Lturned) := ⟨rfl, rfl, rfl, by decide +kernel, rfl, by decide +kernel, by decide +kernel⟩
theorem sc_Lcosts : FnScope ["_law_hand_here", "_law_sides", "_law_ladder", "_law_most", "_law_lines", "_law_east", "_law_line", "_law_west", "_law_entry", "_law_end"] ["_law_hand_here", "_law_sides", "_law_ladder"] (defScope s_Lcosts) := ⟨rfl, rfl, rfl, by decide +kernel, rfl, by decide +kernel, by decide +kernel⟩
theorem sc_Lup_to : FnScope ["_law_entry", "_law_cost", "_law_end", "_law_worth"] ["_law_entry", "_law_cost"] (defScope s_Lup_to) := ⟨rfl, rfl, rfl, by decide +kernel, rfl, by decide +kernel, by decide +kernel⟩
theorem sc_Las_goals : FnScope ["_law_costs_here", "_law_cost", "_law_told", "e"] ["_law_costs_here", "_law_cost"] (defScope s_Las_goals) := ⟨rfl, rfl, rfl, by decide +kernel, rfl, by decide +kernel, by decide +kernel⟩
theorem sc_Lgoals : FnScope ["_law_hand_here", "_law_sides", "_law_counts", "_law_ladder", "_law_lines", "_law_costs_here", "_law_weights_here", "_law_wanted", "_law_floor", "_law_greatest", "_law_line", "_law_row", "_law_ends", "_law_entry", "_law_weight", "_law_told", "_law_cost", "_law_due_here"] ["_law_hand_here", "_law_sides", "_law_counts"] (defScope s_Lgoals) := ⟨rfl, rfl, rfl, by decide +kernel, rfl, by decide +kernel, by decide +kernel⟩
theorem sc_Lunlike : FnScope ["_law_hand_here", "_law_costs_here", "_law_sides", "_law_other", "_law_weights_here", "_law_turn", "e"] ["_law_hand_here", "_law_costs_here", "_law_sides"] (defScope s_Lunlike) := ⟨rfl, rfl, rfl, by decide +kernel, rfl, by decide +kernel, by decide +kernel⟩
theorem sc_Lcase : FnScope ["_law_hand_here", "_law_sides", "_law_lines"] ["_law_hand_here"] (defScope s_Lcase) := ⟨rfl, rfl, rfl, by decide +kernel, rfl, by decide +kernel, by decide +kernel⟩
theorem sc_law : FnScope ["_law_script"] ["_law_script"] (defScope s_law) := ⟨rfl, rfl, rfl, by decide +kernel, rfl, by decide +kernel, by decide +kernel⟩
structure Tx where
  f_BadGoalsu_initu : Addr
  d_BadGoalsu_initu : FuncData
  f_BadLotu_initu : Addr
  d_BadLotu_initu : FuncData
  f_NotAlikeu_initu : Addr
  d_NotAlikeu_initu : FuncData
  f_BadCostsu_initu : Addr
  d_BadCostsu_initu : FuncData
  f_BadWeightsu_initu : Addr
  d_BadWeightsu_initu : FuncData
  f_is_whole : Addr
  d_is_whole : FuncData
  f_is_truth : Addr
  d_is_truth : FuncData
  f_is_sequence : Addr
  d_is_sequence : FuncData
  f_check_side : Addr
  d_check_side : FuncData
  f_are_sides : Addr
  d_are_sides : FuncData
  f_couples_of : Addr
  d_couples_of : FuncData
  f_are_kinds : Addr
  d_are_kinds : FuncData
  f_is_order : Addr
  d_is_order : FuncData
  f_check_side_order : Addr
  d_check_side_order : FuncData
  f_sides_of_lines : Addr
  d_sides_of_lines : FuncData
  f_renumbered_lines : Addr
  d_renumbered_lines : FuncData
  f_are_ends : Addr
  d_are_ends : FuncData
  f_is_knowing : Addr
  d_is_knowing : FuncData
  f_Goalsu_initu : Addr
  d_Goalsu_initu : FuncData
  f_Goalsu_equ : Addr
  d_Goalsu_equ : FuncData
  f_Goals_renumbered : Addr
  d_Goals_renumbered : FuncData
  f_is_entry : Addr
  d_is_entry : FuncData
  f_Costsu_initu : Addr
  d_Costsu_initu : FuncData
  f_Costsu_equ : Addr
  d_Costsu_equ : FuncData
  f_Costs_added : Addr
  d_Costs_added : FuncData
  f_Costs_renumbered : Addr
  d_Costs_renumbered : FuncData
  f_Weightsu_initu : Addr
  d_Weightsu_initu : FuncData
  f_Weightsu_equ : Addr
  d_Weightsu_equ : FuncData
  f_Weights_weight_sum : Addr
  d_Weights_weight_sum : FuncData
  f_Weights_even : Addr
  d_Weights_even : FuncData
  f_Weights_plus : Addr
  d_Weights_plus : FuncData
  f_Weights_times : Addr
  d_Weights_times : FuncData
  f_Weights_renumbered : Addr
  d_Weights_renumbered : FuncData
  f_check_weights : Addr
  d_check_weights : FuncData
  f_ends_up_to : Addr
  d_ends_up_to : FuncData
  f_floor_of : Addr
  d_floor_of : FuncData
  f_cheapest_goals : Addr
  d_cheapest_goals : FuncData
  f_as_goals : Addr
  d_as_goals : FuncData
  f_Lmix : Addr
  d_Lmix : FuncData
  f_Lhand : Addr
  d_Lhand : FuncData
  f_Ldraw : Addr
  d_Ldraw : FuncData
  f_Lwhole : Addr
  d_Lwhole : FuncData
  f_Lshape : Addr
  d_Lshape : FuncData
  f_Ldrawn : Addr
  d_Ldrawn : FuncData
  f_Ltuples : Addr
  d_Ltuples : FuncData
  f_Ldue : Addr
  d_Ldue : FuncData
  f_Lmade : Addr
  d_Lmade : FuncData
  f_Lmade_due : Addr
  d_Lmade_due : FuncData
  f_Lspoil : Addr
  d_Lspoil : FuncData
  f_Lplus : Addr
  d_Lplus : FuncData
  f_Ltimes : Addr
  d_Ltimes : FuncData
  f_Leven : Addr
  d_Leven : FuncData
  f_Lrenumbered : Addr
  d_Lrenumbered : FuncData
  f_Ladded_due : Addr
  d_Ladded_due : FuncData
  f_Lorder : Addr
  d_Lorder : FuncData
  f_Lweights : Addr
  d_Lweights : FuncData
  f_Lturned : Addr
  d_Lturned : FuncData
  f_Lcosts : Addr
  d_Lcosts : FuncData
  f_Lup_to : Addr
  d_Lup_to : FuncData
  f_Las_goals : Addr
  d_Las_goals : FuncData
  f_Lgoals : Addr
  d_Lgoals : FuncData
  f_Lunlike : Addr
  d_Lunlike : FuncData
  f_Lcase : Addr
  d_Lcase : FuncData
  f_law : Addr
  d_law : FuncData
  C_CallError : Addr
  C_BadGoals : Addr
  C_BadLot : Addr
  C_BadSide : Addr
  C_NotAlike : Addr
  C_BadCosts : Addr
  C_BadWeights : Addr
  C_Goals : Addr
  C_Costs : Addr
  C_Weights : Addr
  p_Weights_weight_sum : Addr
  p_Weights_even : Addr
  t_EAST : Tok
  t_WEST : Tok
  t_LADDER_MOST : Tok
  t_KINDS_MOST : Tok
  t_COUPLES_MOST : Tok
  t_COST_MOST : Tok
  t_TIMES_MOST : Tok
  e1_is_whole : List Value
  e2_is_whole : List Value
  e1_Goalsu_initu : List Value
  w0_Goalsu_initu : Addr
structure Ok (K : PySem.W.Frag) (mg : Str → Option Value) (T : Tx) : Prop where
  F_BadGoalsu_initu : Fun K "__init__" "BadGoals.__init__" s_BadGoalsu_initu T.f_BadGoalsu_initu T.d_BadGoalsu_initu
  b_BadGoalsu_initu : Binds K T.d_BadGoalsu_initu ["self", "what"] []
  F_BadLotu_initu : Fun K "__init__" "BadLot.__init__" s_BadLotu_initu T.f_BadLotu_initu T.d_BadLotu_initu
  b_BadLotu_initu : Binds K T.d_BadLotu_initu ["self", "side"] []
  F_NotAlikeu_initu : Fun K "__init__" "NotAlike.__init__" s_NotAlikeu_initu T.f_NotAlikeu_initu T.d_NotAlikeu_initu
  b_NotAlikeu_initu : Binds K T.d_NotAlikeu_initu ["self", "what"] []
  F_BadCostsu_initu : Fun K "__init__" "BadCosts.__init__" s_BadCostsu_initu T.f_BadCostsu_initu T.d_BadCostsu_initu
  b_BadCostsu_initu : Binds K T.d_BadCostsu_initu ["self", "what"] []
  F_BadWeightsu_initu : Fun K "__init__" "BadWeights.__init__" s_BadWeightsu_initu T.f_BadWeightsu_initu T.d_BadWeightsu_initu
  b_BadWeightsu_initu : Binds K T.d_BadWeightsu_initu ["self", "what"] []
  F_is_whole : FunD K "is_whole" "is_whole" (defArgs s_is_whole) (defBody s_is_whole) (defScope s_is_whole) [.non, .non] [] T.f_is_whole T.d_is_whole
  m_is_whole : mg "is_whole" = some (.ref T.f_is_whole)
  b_is_whole : Binds K T.d_is_whole ["thing", "low", "high"] []
  b1_is_whole : Vals [.non] T.e1_is_whole ∧ Binds K T.d_is_whole ["thing", "low", "high"] T.e1_is_whole
  b2_is_whole : Vals [.non, .non] T.e2_is_whole ∧ Binds K T.d_is_whole ["thing", "low", "high"] T.e2_is_whole
  F_is_truth : Fun K "is_truth" "is_truth" s_is_truth T.f_is_truth T.d_is_truth
  m_is_truth : mg "is_truth" = some (.ref T.f_is_truth)
  b_is_truth : Binds K T.d_is_truth ["thing"] []
  F_is_sequence : Fun K "is_sequence" "is_sequence" s_is_sequence T.f_is_sequence T.d_is_sequence
  m_is_sequence : mg "is_sequence" = some (.ref T.f_is_sequence)
  b_is_sequence : Binds K T.d_is_sequence ["thing"] []
  F_check_side : Fun K "check_side" "check_side" s_check_side T.f_check_side T.d_check_side
  m_check_side : mg "check_side" = some (.ref T.f_check_side)
  b_check_side : Binds K T.d_check_side ["side"] []
  F_are_sides : Fun K "are_sides" "are_sides" s_are_sides T.f_are_sides T.d_are_sides
  m_are_sides : mg "are_sides" = some (.ref T.f_are_sides)
  b_are_sides : Binds K T.d_are_sides ["thing"] []
  F_couples_of : Fun K "couples_of" "couples_of" s_couples_of T.f_couples_of T.d_couples_of
  m_couples_of : mg "couples_of" = some (.ref T.f_couples_of)
  b_couples_of : Binds K T.d_couples_of ["sides"] []
  F_are_kinds : Fun K "are_kinds" "are_kinds" s_are_kinds T.f_are_kinds T.d_are_kinds
  m_are_kinds : mg "are_kinds" = some (.ref T.f_are_kinds)
  b_are_kinds : Binds K T.d_are_kinds ["thing", "kinds"] []
  F_is_order : Fun K "is_order" "is_order" s_is_order T.f_is_order T.d_is_order
  m_is_order : mg "is_order" = some (.ref T.f_is_order)
  b_is_order : Binds K T.d_is_order ["thing", "many"] []
  F_check_side_order : Fun K "check_side_order" "check_side_order" s_check_side_order T.f_check_side_order T.d_check_side_order
  m_check_side_order : mg "check_side_order" = some (.ref T.f_check_side_order)
  b_check_side_order : Binds K T.d_check_side_order ["order", "kinds", "side"] []
  F_sides_of_lines : Fun K "sides_of_lines" "sides_of_lines" s_sides_of_lines T.f_sides_of_lines T.d_sides_of_lines
  m_sides_of_lines : mg "sides_of_lines" = some (.ref T.f_sides_of_lines)
  b_sides_of_lines : Binds K T.d_sides_of_lines ["lines"] []
  F_renumbered_lines : Fun K "renumbered_lines" "renumbered_lines" s_renumbered_lines T.f_renumbered_lines T.d_renumbered_lines
  m_renumbered_lines : mg "renumbered_lines" = some (.ref T.f_renumbered_lines)
  b_renumbered_lines : Binds K T.d_renumbered_lines ["lines", "side", "order"] []
  F_are_ends : Fun K "are_ends" "are_ends" s_are_ends T.f_are_ends T.d_are_ends
  m_are_ends : mg "are_ends" = some (.ref T.f_are_ends)
  b_are_ends : Binds K T.d_are_ends ["thing", "ladder"] []
  F_is_knowing : Fun K "is_knowing" "is_knowing" s_is_knowing T.f_is_knowing T.d_is_knowing
  m_is_knowing : mg "is_knowing" = some (.ref T.f_is_knowing)
  b_is_knowing : Binds K T.d_is_knowing ["thing"] []
  F_Goalsu_initu : FunD K "__init__" "Goals.__init__" (defArgs s_Goalsu_initu) (defBody s_Goalsu_initu) (defScope s_Goalsu_initu) [(.ref T.w0_Goalsu_initu)] [] T.f_Goalsu_initu T.d_Goalsu_initu
  y0_Goalsu_initu : ∀ H : Hp, SqT K H T.w0_Goalsu_initu [(.bl false), (.bl false)]
  b_Goalsu_initu : Binds K T.d_Goalsu_initu ["self", "ladder", "wanted", "knows"] []
  b1_Goalsu_initu : Vals [(.ref T.w0_Goalsu_initu)] T.e1_Goalsu_initu ∧ Binds K T.d_Goalsu_initu ["self", "ladder", "wanted", "knows"] T.e1_Goalsu_initu
  F_Goalsu_equ : Fun K "__eq__" "Goals.__eq__" s_Goalsu_equ T.f_Goalsu_equ T.d_Goalsu_equ
  b_Goalsu_equ : Binds K T.d_Goalsu_equ ["self", "other"] []
  F_Goals_renumbered : Fun K "renumbered" "Goals.renumbered" s_Goals_renumbered T.f_Goals_renumbered T.d_Goals_renumbered
  b_Goals_renumbered : Binds K T.d_Goals_renumbered ["self", "side", "order"] []
  F_is_entry : Fun K "is_entry" "is_entry" s_is_entry T.f_is_entry T.d_is_entry
  m_is_entry : mg "is_entry" = some (.ref T.f_is_entry)
  b_is_entry : Binds K T.d_is_entry ["thing", "ladder"] []
  F_Costsu_initu : Fun K "__init__" "Costs.__init__" s_Costsu_initu T.f_Costsu_initu T.d_Costsu_initu
  b_Costsu_initu : Binds K T.d_Costsu_initu ["self", "ladder", "lines"] []
  F_Costsu_equ : Fun K "__eq__" "Costs.__eq__" s_Costsu_equ T.f_Costsu_equ T.d_Costsu_equ
  b_Costsu_equ : Binds K T.d_Costsu_equ ["self", "other"] []
  F_Costs_added : Fun K "added" "Costs.added" s_Costs_added T.f_Costs_added T.d_Costs_added
  b_Costs_added : Binds K T.d_Costs_added ["self", "amount"] []
  F_Costs_renumbered : Fun K "renumbered" "Costs.renumbered" s_Costs_renumbered T.f_Costs_renumbered T.d_Costs_renumbered
  b_Costs_renumbered : Binds K T.d_Costs_renumbered ["self", "side", "order"] []
  F_Weightsu_initu : Fun K "__init__" "Weights.__init__" s_Weightsu_initu T.f_Weightsu_initu T.d_Weightsu_initu
  b_Weightsu_initu : Binds K T.d_Weightsu_initu ["self", "lines"] []
  F_Weightsu_equ : Fun K "__eq__" "Weights.__eq__" s_Weightsu_equ T.f_Weightsu_equ T.d_Weightsu_equ
  b_Weightsu_equ : Binds K T.d_Weightsu_equ ["self", "other"] []
  F_Weights_weight_sum : Fun K "weight_sum" "Weights.weight_sum" s_Weights_weight_sum T.f_Weights_weight_sum T.d_Weights_weight_sum
  b_Weights_weight_sum : Binds K T.d_Weights_weight_sum ["self"] []
  F_Weights_even : Fun K "even" "Weights.even" s_Weights_even T.f_Weights_even T.d_Weights_even
  b_Weights_even : Binds K T.d_Weights_even ["sides"] []
  F_Weights_plus : Fun K "plus" "Weights.plus" s_Weights_plus T.f_Weights_plus T.d_Weights_plus
  b_Weights_plus : Binds K T.d_Weights_plus ["self", "other"] []
  F_Weights_times : Fun K "times" "Weights.times" s_Weights_times T.f_Weights_times T.d_Weights_times
  b_Weights_times : Binds K T.d_Weights_times ["self", "size"] []
  F_Weights_renumbered : Fun K "renumbered" "Weights.renumbered" s_Weights_renumbered T.f_Weights_renumbered T.d_Weights_renumbered
  b_Weights_renumbered : Binds K T.d_Weights_renumbered ["self", "side", "order"] []
  F_check_weights : Fun K "check_weights" "check_weights" s_check_weights T.f_check_weights T.d_check_weights
  m_check_weights : mg "check_weights" = some (.ref T.f_check_weights)
  b_check_weights : Binds K T.d_check_weights ["costs", "weights"] []
  F_ends_up_to : Fun K "ends_up_to" "ends_up_to" s_ends_up_to T.f_ends_up_to T.d_ends_up_to
  m_ends_up_to : mg "ends_up_to" = some (.ref T.f_ends_up_to)
  b_ends_up_to : Binds K T.d_ends_up_to ["entry", "cost"] []
  F_floor_of : Fun K "floor_of" "floor_of" s_floor_of T.f_floor_of T.d_floor_of
  m_floor_of : mg "floor_of" = some (.ref T.f_floor_of)
  b_floor_of : Binds K T.d_floor_of ["costs", "weights"] []
  F_cheapest_goals : Fun K "cheapest_goals" "cheapest_goals" s_cheapest_goals T.f_cheapest_goals T.d_cheapest_goals
  m_cheapest_goals : mg "cheapest_goals" = some (.ref T.f_cheapest_goals)
  b_cheapest_goals : Binds K T.d_cheapest_goals ["costs", "weights"] []
  F_as_goals : Fun K "as_goals" "as_goals" s_as_goals T.f_as_goals T.d_as_goals
  m_as_goals : mg "as_goals" = some (.ref T.f_as_goals)
  b_as_goals : Binds K T.d_as_goals ["costs", "cost"] []
  F_Lmix : Fun K "_law_mix" "_law_mix" s_Lmix T.f_Lmix T.d_Lmix
  m_Lmix : mg "_law_mix" = some (.ref T.f_Lmix)
  b_Lmix : Binds K T.d_Lmix ["_law_number", "_law_turn"] []
  F_Lhand : Fun K "_law_hand" "_law_hand" s_Lhand T.f_Lhand T.d_Lhand
  m_Lhand : mg "_law_hand" = some (.ref T.f_Lhand)
  b_Lhand : Binds K T.d_Lhand ["_law_script"] []
  F_Ldraw : Fun K "_law_draw" "_law_draw" s_Ldraw T.f_Ldraw T.d_Ldraw
  m_Ldraw : mg "_law_draw" = some (.ref T.f_Ldraw)
  b_Ldraw : Binds K T.d_Ldraw ["_law_hand_here", "_law_many"] []
  F_Lwhole : Fun K "_law_whole" "_law_whole" s_Lwhole T.f_Lwhole T.d_Lwhole
  m_Lwhole : mg "_law_whole" = some (.ref T.f_Lwhole)
  b_Lwhole : Binds K T.d_Lwhole ["_law_thing"] []
  F_Lshape : Fun K "_law_shape" "_law_shape" s_Lshape T.f_Lshape T.d_Lshape
  m_Lshape : mg "_law_shape" = some (.ref T.f_Lshape)
  b_Lshape : Binds K T.d_Lshape ["_law_hand_here"] []
  F_Ldrawn : Fun K "_law_drawn" "_law_drawn" s_Ldrawn T.f_Ldrawn T.d_Ldrawn
  m_Ldrawn : mg "_law_drawn" = some (.ref T.f_Ldrawn)
  b_Ldrawn : Binds K T.d_Ldrawn ["_law_hand_here", "_law_sides"] []
  F_Ltuples : Fun K "_law_tuples" "_law_tuples" s_Ltuples T.f_Ltuples T.d_Ltuples
  m_Ltuples : mg "_law_tuples" = some (.ref T.f_Ltuples)
  b_Ltuples : Binds K T.d_Ltuples ["_law_lines"] []
  F_Ldue : Fun K "_law_due" "_law_due" s_Ldue T.f_Ldue T.d_Ldue
  m_Ldue : mg "_law_due" = some (.ref T.f_Ldue)
  b_Ldue : Binds K T.d_Ldue ["_law_lines"] []
  F_Lmade : Fun K "_law_made" "_law_made" s_Lmade T.f_Lmade T.d_Lmade
  m_Lmade : mg "_law_made" = some (.ref T.f_Lmade)
  b_Lmade : Binds K T.d_Lmade ["_law_lines"] []
  F_Lmade_due : Fun K "_law_made_due" "_law_made_due" s_Lmade_due T.f_Lmade_due T.d_Lmade_due
  m_Lmade_due : mg "_law_made_due" = some (.ref T.f_Lmade_due)
  b_Lmade_due : Binds K T.d_Lmade_due ["_law_lines"] []
  F_Lspoil : Fun K "_law_spoil" "_law_spoil" s_Lspoil T.f_Lspoil T.d_Lspoil
  m_Lspoil : mg "_law_spoil" = some (.ref T.f_Lspoil)
  b_Lspoil : Binds K T.d_Lspoil ["_law_hand_here", "_law_lines"] []
  F_Lplus : Fun K "_law_plus" "_law_plus" s_Lplus T.f_Lplus T.d_Lplus
  m_Lplus : mg "_law_plus" = some (.ref T.f_Lplus)
  b_Lplus : Binds K T.d_Lplus ["_law_one", "_law_other"] []
  F_Ltimes : Fun K "_law_times" "_law_times" s_Ltimes T.f_Ltimes T.d_Ltimes
  m_Ltimes : mg "_law_times" = some (.ref T.f_Ltimes)
  b_Ltimes : Binds K T.d_Ltimes ["_law_one", "_law_size"] []
  F_Leven : Fun K "_law_even" "_law_even" s_Leven T.f_Leven T.d_Leven
  m_Leven : mg "_law_even" = some (.ref T.f_Leven)
  b_Leven : Binds K T.d_Leven ["_law_sides"] []
  F_Lrenumbered : Fun K "_law_renumbered" "_law_renumbered" s_Lrenumbered T.f_Lrenumbered T.d_Lrenumbered
  m_Lrenumbered : mg "_law_renumbered" = some (.ref T.f_Lrenumbered)
  b_Lrenumbered : Binds K T.d_Lrenumbered ["_law_weights_here", "_law_side", "_law_order_here"] []
  F_Ladded_due : Fun K "_law_added_due" "_law_added_due" s_Ladded_due T.f_Ladded_due T.d_Ladded_due
  m_Ladded_due : mg "_law_added_due" = some (.ref T.f_Ladded_due)
  b_Ladded_due : Binds K T.d_Ladded_due ["_law_one", "_law_other"] []
  F_Lorder : Fun K "_law_order" "_law_order" s_Lorder T.f_Lorder T.d_Lorder
  m_Lorder : mg "_law_order" = some (.ref T.f_Lorder)
  b_Lorder : Binds K T.d_Lorder ["_law_hand_here", "_law_many"] []
  F_Lweights : Fun K "_law_weights" "_law_weights" s_Lweights T.f_Lweights T.d_Lweights
  m_Lweights : mg "_law_weights" = some (.ref T.f_Lweights)
  b_Lweights : Binds K T.d_Lweights ["_law_hand_here", "_law_sides", "_law_lines"] []
  F_Lturned : Fun K "_law_turned" "_law_turned" s_Lturned T.f_Lturned T.d_Lturned
  m_Lturned : mg "_law_turned" = some (.ref T.f_Lturned)
  b_Lturned : Binds K T.d_Lturned ["_law_hand_here", "_law_weights_here", "_law_lines"] []
  F_Lcosts : Fun K "_law_costs" "_law_costs" s_Lcosts T.f_Lcosts T.d_Lcosts
  m_Lcosts : mg "_law_costs" = some (.ref T.f_Lcosts)
  b_Lcosts : Binds K T.d_Lcosts ["_law_hand_here", "_law_sides", "_law_ladder"] []
  F_Lup_to : Fun K "_law_up_to" "_law_up_to" s_Lup_to T.f_Lup_to T.d_Lup_to
  m_Lup_to : mg "_law_up_to" = some (.ref T.f_Lup_to)
  b_Lup_to : Binds K T.d_Lup_to ["_law_entry", "_law_cost"] []
  F_Las_goals : Fun K "_law_as_goals" "_law_as_goals" s_Las_goals T.f_Las_goals T.d_Las_goals
  m_Las_goals : mg "_law_as_goals" = some (.ref T.f_Las_goals)
  b_Las_goals : Binds K T.d_Las_goals ["_law_costs_here", "_law_cost"] []
  F_Lgoals : Fun K "_law_goals" "_law_goals" s_Lgoals T.f_Lgoals T.d_Lgoals
  m_Lgoals : mg "_law_goals" = some (.ref T.f_Lgoals)
  b_Lgoals : Binds K T.d_Lgoals ["_law_hand_here", "_law_sides", "_law_counts"] []
  F_Lunlike : Fun K "_law_unlike" "_law_unlike" s_Lunlike T.f_Lunlike T.d_Lunlike
  m_Lunlike : mg "_law_unlike" = some (.ref T.f_Lunlike)
  b_Lunlike : Binds K T.d_Lunlike ["_law_hand_here", "_law_costs_here", "_law_sides"] []
  F_Lcase : Fun K "_law_case" "_law_case" s_Lcase T.f_Lcase T.d_Lcase
  m_Lcase : mg "_law_case" = some (.ref T.f_Lcase)
  b_Lcase : Binds K T.d_Lcase ["_law_hand_here"] []
  F_law : Fun K "law" "law" s_law T.f_law T.d_law
  m_law : mg "law" = some (.ref T.f_law)
  b_law : Binds K T.d_law ["_law_script"] []
  m_CallError : mg "CallError" = some (.ref T.C_CallError)
  e_CallError : Jv.ExcP K T.C_CallError
  m_BadGoals : mg "BadGoals" = some (.ref T.C_BadGoals)
  x_BadGoals : Jv.ExcI K T.C_BadGoals T.f_BadGoalsu_initu
  m_BadLot : mg "BadLot" = some (.ref T.C_BadLot)
  x_BadLot : Jv.ExcI K T.C_BadLot T.f_BadLotu_initu
  m_BadSide : mg "BadSide" = some (.ref T.C_BadSide)
  e_BadSide : Jv.ExcP K T.C_BadSide
  m_NotAlike : mg "NotAlike" = some (.ref T.C_NotAlike)
  x_NotAlike : Jv.ExcI K T.C_NotAlike T.f_NotAlikeu_initu
  m_BadCosts : mg "BadCosts" = some (.ref T.C_BadCosts)
  x_BadCosts : Jv.ExcI K T.C_BadCosts T.f_BadCostsu_initu
  m_BadWeights : mg "BadWeights" = some (.ref T.C_BadWeights)
  x_BadWeights : Jv.ExcI K T.C_BadWeights T.f_BadWeightsu_initu
  m_Goals : mg "Goals" = some (.ref T.C_Goals)
  o_Goals : Cls K T.C_Goals
  k_Goals : Mk K T.C_Goals T.f_Goalsu_initu
  h_Goalsu_equ : Meth K T.C_Goals "__eq__" T.f_Goalsu_equ
  h_Goals_renumbered : Meth K T.C_Goals "renumbered" T.f_Goals_renumbered
  n_Goals_ladder : NoAttr K T.C_Goals "ladder"
  n_Goals_wanted : NoAttr K T.C_Goals "wanted"
  n_Goals_knows : NoAttr K T.C_Goals "knows"
  n_Goals_sides : NoAttr K T.C_Goals "sides"
  m_Costs : mg "Costs" = some (.ref T.C_Costs)
  o_Costs : Cls K T.C_Costs
  k_Costs : Mk K T.C_Costs T.f_Costsu_initu
  h_Costsu_equ : Meth K T.C_Costs "__eq__" T.f_Costsu_equ
  h_Costs_added : Meth K T.C_Costs "added" T.f_Costs_added
  h_Costs_renumbered : Meth K T.C_Costs "renumbered" T.f_Costs_renumbered
  n_Costs_ladder : NoAttr K T.C_Costs "ladder"
  n_Costs_lines : NoAttr K T.C_Costs "lines"
  n_Costs_sides : NoAttr K T.C_Costs "sides"
  m_Weights : mg "Weights" = some (.ref T.C_Weights)
  o_Weights : Cls K T.C_Weights
  k_Weights : Mk K T.C_Weights T.f_Weightsu_initu
  h_Weightsu_equ : Meth K T.C_Weights "__eq__" T.f_Weightsu_equ
  p_Weights_weight_sum : PropOf K T.C_Weights "weight_sum" T.p_Weights_weight_sum T.f_Weights_weight_sum
  s_Weights_even : Jv.SMet K T.C_Weights (.type "type") "even" T.p_Weights_even T.f_Weights_even
  h_Weights_plus : Meth K T.C_Weights "plus" T.f_Weights_plus
  h_Weights_times : Meth K T.C_Weights "times" T.f_Weights_times
  h_Weights_renumbered : Meth K T.C_Weights "renumbered" T.f_Weights_renumbered
  n_Weights_lines : NoAttr K T.C_Weights "lines"
  n_Weights_sides : NoAttr K T.C_Weights "sides"
  z_ValueError : mg "ValueError" = none
  z_abs : mg "abs" = none
  z_all : mg "all" = none
  z_bool : mg "bool" = none
  z_enumerate : mg "enumerate" = none
  z_int : mg "int" = none
  z_isinstance : mg "isinstance" = none
  z_len : mg "len" = none
  z_list : mg "list" = none
  z_max : mg "max" = none
  z_min : mg "min" = none
  z_property : mg "property" = none
  z_range : mg "range" = none
  z_set : mg "set" = none
  z_sorted : mg "sorted" = none
  z_staticmethod : mg "staticmethod" = none
  z_sum : mg "sum" = none
  z_tuple : mg "tuple" = none
  z_zip : mg "zip" = none
  c_EAST : mg "EAST" = some (.int (0) T.t_EAST)
  c_WEST : mg "WEST" = some (.int (1) T.t_WEST)
  c_LADDER_MOST : mg "LADDER_MOST" = some (.int (6) T.t_LADDER_MOST)
  c_KINDS_MOST : mg "KINDS_MOST" = some (.int (6) T.t_KINDS_MOST)
  c_COUPLES_MOST : mg "COUPLES_MOST" = some (.int (12) T.t_COUPLES_MOST)
  c_COST_MOST : mg "COST_MOST" = some (.int (1000000) T.t_COST_MOST)
  c_TIMES_MOST : mg "TIMES_MOST" = some (.int (1000) T.t_TIMES_MOST)
  n_BadGoals_what : PySem.W.findIn K (.ref T.C_BadGoals) "what" = some none
  n_BadLot_side : PySem.W.findIn K (.ref T.C_BadLot) "side" = some none
  n_NotAlike_what : PySem.W.findIn K (.ref T.C_NotAlike) "what" = some none
  n_BadCosts_what : PySem.W.findIn K (.ref T.C_BadCosts) "what" = some none
  n_BadWeights_what : PySem.W.findIn K (.ref T.C_BadWeights) "what" = some none
  u_BadWeights_NotAlike : PySem.W.subIn K (.ref T.C_BadWeights) (.ref T.C_NotAlike) = some false
  u_BadLot_BadSide : PySem.W.subIn K (.ref T.C_BadLot) (.ref T.C_BadSide) = some false
  i_Weights_ca : PySem.W.findIn K (.ref T.C_Weights) "__class__" = some (some (.builtin "object.__class__"))
  i_Weights_cn : PySem.W.specialIn K (.builtin "object.__class__") "__get__" = some (some (.builtin "getset_descriptor.__get__"))
  i_Weights_ct : PySem.W.takesIn K (.builtin "object.__class__") = some true
  i_Weights_cm : PySem.W.mroIn K T.C_Weights (.type "object") = some true
  i_Weights_kt : PySem.W.kitOne K (.type "tuple") (.ref T.C_Weights) = some false
  i_Weights_nt : PySem.W.notFirst K T.C_Weights (.type "tuple") = true
  i_Weights_ne : PySem.W.findIn K (.ref T.C_Weights) "__ne__" = some (some (.builtin "object.__ne__"))
  i_Goals_ca : PySem.W.findIn K (.ref T.C_Goals) "__class__" = some (some (.builtin "object.__class__"))
  i_Goals_cn : PySem.W.specialIn K (.builtin "object.__class__") "__get__" = some (some (.builtin "getset_descriptor.__get__"))
  i_Goals_ct : PySem.W.takesIn K (.builtin "object.__class__") = some true
  i_Goals_cm : PySem.W.mroIn K T.C_Goals (.type "object") = some true
  i_Goals_kt : PySem.W.kitOne K (.type "tuple") (.ref T.C_Goals) = some false
  i_Goals_nt : PySem.W.notFirst K T.C_Goals (.type "tuple") = true
  i_Goals_ne : PySem.W.findIn K (.ref T.C_Goals) "__ne__" = some (some (.builtin "object.__ne__"))
end K50

namespace K50
open PySem PySem.Spec PyProof.Rows L2
/-! ### the law's draws: any number below the bound may come -/
def sp_Lmix : Sp := fun vs H Q _ => ∃ n t : Int, vs = [.int n, .int t] ∧ (0 ≤ n ∧ n < 2147483648 ∧ 0 ≤ t ∧ t ≤ 1000) ∧ ∀ r : Int, 0 ≤ r → r < 134217728 → Q (.int r) H
theorem mix_end (z : Int) : 0 ≤ z % 2147483563 / 16 ∧ z % 2147483563 / 16 < 134217728 := by omega
section
variable {P : Program} {w : World} {K : PySem.W.Frag} {mg : Str → Option Value} {base : Heap}
theorem ok_Lmix (T : Tx) (O : Ok K mg T) : FnOk P w K mg base CX0 1 T.f_Lmix T.d_Lmix ["_law_number", "_law_turn"] sp_Lmix := by
  refine O.F_Lmix.ok sc_Lmix (fun vs H Q E h => by obtain ⟨n, t, rfl, _⟩ := h; rfl) (fun cdv A outer s H vs Q E hr h => ?_)
  obtain ⟨n, t, rfl, ⟨h1, h2, h3, h4⟩, q⟩ := h
  refine ⟨_, (pss_cons (ps_set (i := 2) sc_Lmix.nd rfl (Or.inl rfl) (pe_op op_mod (pe_callTy (r := Jv.rInt) Jv.cr_int (by rfl) O.z_int (by decide +kernel) (pa_cons (pe_op op_add (pe_op op_add (pe_op op_mul (pv 0) pe_int) (pe_op op_mul (pv 1) pe_int)) pe_int) pa_nil)) pe_int))
  (pss_cons (ps_set (i := 3) sc_Lmix.nd rfl (Or.inl rfl) (pe_op op_mod (pe_callTy (r := Jv.rInt) Jv.cr_int (by rfl) O.z_int (by decide +kernel) (pa_cons (pe_op op_add (pe_op op_add (pe_op op_mul (pv 2) (pv 2)) (pe_op op_mul (pe_op op_fdivW (pv 2) pe_int) pe_int)) (pe_op op_mul (pv 1) pe_int)) pa_nil)) pe_int))
  (pss_one (ps_ret (pe_op op_fdivW (pe_op op_mod (pe_callTy (r := Jv.rInt) Jv.cr_int (by rfl) O.z_int (by decide +kernel) (pa_cons (pe_op op_add (pe_op op_fdivW (pe_op op_mul (pv 3) (pv 3)) pe_int) (pv 2)) pa_nil)) pe_int) pe_int))))), ?_⟩
  walk_at "r"
  exact q _ (mix_end _).1 (mix_end _).2
end
end K50

namespace Jv
open PySem PySem.Spec PyProof.Rows L2
/-! ### the hand: numbers still to be used, a place, a rest, a total -/
structure HandAt (H : Hp) (p l : Addr) (ns : List Int) (k c t : Int) : Prop where
  hp : H p = some (.lst [.ref l, .int k, .int c, .int t])
  hl : H l = some (.lst (ns.map V.int))
  nn : ∀ n ∈ ns, 0 ≤ n
  few : ns.length ≤ 63
  bd : 0 ≤ k ∧ k ≤ ns.length ∧ 0 ≤ c ∧ 0 ≤ t ∧ t < 2147483629
def Hand (H : Hp) (p l : Addr) : Prop := ∃ ns k c t, HandAt H p l ns k c t
theorem HandAt.ne {H : Hp} {p l : Addr} {ns : List Int} {k c t : Int} (h : HandAt H p l ns k c t) : l ≠ p := fun e => by
  have q := h.hp
  rw [← e, h.hl] at q
  have q2 := HO.lst.inj (Option.some.inj q)
  cases ns with
  | nil => cases q2
  | cons a r => cases q2
/-- all but what stands at p is as it was -/
def Kp (p : Addr) (H H' : Hp) : Prop := ∀ b o, b ≠ p → H b = some o → H' b = some o
theorem Kp.refl {p : Addr} {H : Hp} : Kp p H H := fun _ _ _ e => e
theorem Kp.trans {p : Addr} {H H1 H2 : Hp} (a : Kp p H H1) (b : Kp p H1 H2) : Kp p H H2 := fun c o n e => b c o n (a c o n e)
theorem Kp.same {p : Addr} {H H' : Hp} (a : Same H H') : Kp p H H' := fun c o _ e => a c o e
theorem Kp.upd {p : Addr} {H : Hp} {o : HO} : Kp p H (upd H p o) := fun c u n e => by rw [upd_ne n]; exact e
theorem Kp.new {p q : Addr} {H : Hp} {o : HO} (n : H q = none) : Kp p H (L2.upd H q o) := Kp.same (same_new n)
theorem Hand.same {H H' : Hp} {p l : Addr} (h : Hand H p l) (s : Same H H') : Hand H' p l := by
  obtain ⟨ns, k, c, t, h⟩ := h
  exact ⟨ns, k, c, t, s _ _ h.hp, s _ _ h.hl, h.nn, h.few, h.bd⟩
theorem Hand.at {H : Hp} {p l : Addr} (h : Hand H p l) : ∃ o, H p = some o := by
  obtain ⟨ns, k, c, t, h⟩ := h
  exact ⟨_, h.hp⟩
theorem Hand.set {H : Hp} {p l : Addr} {ns : List Int} {k c t k' c' t' : Int} (h : HandAt H p l ns k c t) (b : 0 ≤ k' ∧ k' ≤ ns.length ∧ 0 ≤ c' ∧ 0 ≤ t' ∧ t' < 2147483629) :
    HandAt (upd H p (.lst [.ref l, .int k', .int c', .int t'])) p l ns k' c' t' :=
  ⟨upd_same, by rw [upd_ne h.ne]; exact h.hl, h.nn, h.few, b⟩
end Jv
namespace K50
open PySem PySem.Spec PyProof.Rows L2
def sp_Lhand (K : PySem.W.Frag) : Sp := fun vs H Q _ => ∃ (a : Addr) (ns : List Int), vs = [.ref a] ∧ SqL K H a (ns.map V.int) ∧ ns.length ≤ 63 ∧ ∀ p l H', Same H H' → H p = none → Jv.Hand H' p l → Q (.ref p) H'
section
variable {P : Program} {w : World} {K : PySem.W.Frag} {mg : Str → Option Value} {base : Heap}
theorem ok_Lhand (T : Tx) (O : Ok K mg T) : FnOk P w K mg base CX0 1 T.f_Lhand T.d_Lhand ["_law_script"] (sp_Lhand K) := by
  refine O.F_Lhand.ok sc_Lhand (fun vs H Q E h => by obtain ⟨a, ns, rfl, _⟩ := h; rfl) (fun cdv A outer s H vs Q E hr h => ?_)
  obtain ⟨a, ns, rfl, hS, few, q⟩ := h
  refine ⟨_, (pss_cons (ps_set (i := 1) sc_Lhand.nd rfl (Or.inl rfl) pe_int)
  (pss_cons (ps_for PassesOwn.never rfl (show PI _ _ _ (iEnum K _) from pi_enum (by rfl) O.z_enumerate (pa_cons (pv 0) pa_nil)) (pg_tup rfl (pgs_cons (pg_name (i := 2) sc_Lhand.nd rfl (Or.inl rfl)) (pgs_cons (pg_name (i := 3) sc_Lhand.nd rfl (Or.inl rfl)) pgs_nil))) (pss_one (ps_set (i := 1) sc_Lhand.nd rfl (Or.inl rfl) (pe_op op_mod (pe_callTy (r := Jv.rInt) Jv.cr_int (by rfl) O.z_int (by decide +kernel) (pa_cons (pe_op op_add (pe_op op_mul (pv 1) pe_int) (pe_op op_mul (pe_callTy (r := Jv.rInt) Jv.cr_int (by rfl) O.z_int (by decide +kernel) (pa_cons (pv 3) pa_nil)) (pe_op op_add (pv 2) pe_int))) pa_nil)) pe_int))))
  (pss_one (ps_ret (pe_lst (pa_cons (pe_lc (own := [("_law_cell", 3)]) (by rfl) sc_Lhand.nd (show PI _ _ _ (iList K _) from pi_list (pv 0)) (blkOk_by (own := [("_law_cell", 3)]) (N := ["_law_script", "_law_total", "_law_k", "_law_cell"]) (sc := defScope s_Lhand) (scope := ({ kind := .function, names := [(".0", .local), ("_law_cell", .local), ("abs", .globalImplicit), ("int", .globalImplicit)], isGenerator := false, isCoroutine := false } : Scope)) (by decide +kernel)) (fun _ _ _ _ _ => (pg_name (i := 3) sc_Lhand.nd rfl (Or.inl rfl))) (fun _ _ _ _ _ => pts_nil) (fun _ _ _ _ _ => (pe_callB (r := Jv.rAbs) Jv.cr_abs (by rfl) O.z_abs (by decide +kernel) (pa_cons (pe_callTy (r := Jv.rInt) Jv.cr_int (by rfl) O.z_int (by decide +kernel) (pa_cons (pv 3) pa_nil)) pa_nil)))) (pa_cons pe_int (pa_cons pe_int (pa_cons (pv 1) pa_nil))))))))), ?_⟩
  walk_at "r"
  refine ⟨_, _, rfl, hS, ?_⟩
  refine for_it (walk_enum (K := K) (a := a) (xs := ns.map V.int)) (fun i σ H' => ∃ y2 y3 tot, σ = [some (.ref a), some (.int tot), y2, y3] ∧ (0 ≤ tot ∧ tot < 2147483629) ∧ Same H H') ⟨_, _, 0, rfl, by decide, fun _ _ e => e⟩ (fun i σ H' _ ⟨_, _, _, _, _, sm⟩ => sm.seq hS) ?_ ?_
  · rintro i x σ H1 H2 hi ⟨y2, y3, tot, rfl, hb, sm⟩ ⟨p, x1, x2, rfl, hp, rfl, hx, hy⟩
    cases hx
    obtain ⟨z, hz, rfl⟩ := Jv.map_at (show (ns.map V.int)[i]? = some x2 from hy)
    rw [List.length_map] at hi
    walk_at "r"
    exact ⟨_, _, _, rfl, by omega, sm.trans (Jv.same_new hp)⟩
  · rintro σ H' ⟨y2, y3, tot, rfl, hb, sm⟩
    walk_at "r"
    refine ⟨_, rfl, _, rfl, ⟨_, sm.seq hS⟩, fun p hp => ?_⟩
    refine lc_it (walk_list (K := K) (a := a) (xs := ns.map V.int)) (fun i H1 => ∃ zs : List Int, Same H H1 ∧ H1 p = some (.lst (zs.map V.int)) ∧ zs.length = i ∧ ∀ z ∈ zs, 0 ≤ z) ⟨[], sm.trans (Jv.same_new hp), upd_same, rfl, by simp⟩ (fun i H1 _ ⟨_, s1, _⟩ => s1.seq hS) ?_ ?_
    · rintro i x H1 H2 hi ⟨zs, s1, e1, hl, nn⟩ ⟨rfl, hx⟩
      obtain ⟨z, hz, rfl⟩ := Jv.map_at hx
      rw [List.length_map] at hi
      walk_at "r"
      refine ⟨zs.map V.int, e1, ?_, zs ++ [if z < 0 then -z else z], ?_, ?_, ?_, ?_⟩
      · rw [List.length_map, hl]; exact Jv.small_lt (by omega)
      · intro b o e; exact Jv.kpO (s1 b o e) (ne_of_none (sm b o e) hp)
      · rw [upd_same, List.map_append]; rfl
      · rw [List.length_append, hl]; rfl
      · intro y hy
        rcases List.mem_append.mp hy with hy | hy
        · exact nn y hy
        · rw [List.mem_singleton.mp hy]; split <;> omega
    · rintro H1 ⟨zs, s1, e1, hl, nn⟩
      walk_at "r"
      intro p2 hp2
      rw [List.length_map] at hl
      exact q p2 p _ (s1.trans (Jv.same_new hp2)) (s1.free hp2) ⟨zs, 0, 0, tot, upd_same, Jv.kp e1 hp2, nn, by omega, by omega⟩
end
end K50

namespace K50
open PySem PySem.Spec PyProof.Rows L2
def sp_Ldraw : Sp := fun vs H Q _ => ∃ (p l : Addr) (m : Int), vs = [.ref p, .int m] ∧ Jv.Hand H p l ∧ (0 < m ∧ m.natAbs.log2 < 9000) ∧ ∀ r H', 0 ≤ r → r < m → Jv.Kp p H H' → Jv.Hand H' p l → Q (.int r) H'
section
variable {P : Program} {w : World} {K : PySem.W.Frag} {mg : Str → Option Value} {base : Heap}
theorem ok_Ldraw (T : Tx) (O : Ok K mg T) : FnOk P w K mg base CX0 2 T.f_Ldraw T.d_Ldraw ["_law_hand_here", "_law_many"] sp_Ldraw := by
  refine O.F_Ldraw.ok sc_Ldraw (fun vs H Q E h => by obtain ⟨_, _, _, rfl, _⟩ := h; rfl) (fun cdv A outer s H vs Q E hr h => ?_)
  obtain ⟨p, l, m, rfl, ⟨ns, k, c, t, hA⟩, ⟨m0, m1⟩, q⟩ := h
  obtain ⟨hp, hl, nn, few, b1, b2, b3, b4, b5⟩ := id hA
  have nlp := hA.ne
  have e0 : ∀ z : Int, 0 ≤ z % m := fun z => Int.emod_nonneg _ (by omega)
  have e1 : ∀ z : Int, z % m < m := fun z => Int.emod_lt_of_pos _ m0
  refine ⟨_, (C8.pss_cut (ps_if (PW.pt (pw_and (pt_cmpR op_eq (pe_ix (r := rIxL K) ix_list (pv 0) pe_int (fun _ _ => rfl)) pe_int (nomark _)) (pw_and1 (pt_cmpR op_lt (pe_ix (r := rIxL K) ix_list (pv 0) pe_int (fun _ _ => rfl)) (pe_callB (r := Jv.rLenK K) Jv.cr_len (by rfl) O.z_len (by decide +kernel) (pa_cons (pe_ix (r := rIxL K) ix_list (pv 0) pe_int (fun _ _ => rfl)) pa_nil)) (nomark _))))) (pss_cons (ps_set (i := 2) sc_Ldraw.nd rfl (Or.inl rfl) (pe_ix (r := rIxL K) ix_list (pe_ix (r := rIxL K) ix_list (pv 0) pe_int (fun _ _ => rfl)) (pe_ix (r := rIxL K) ix_list (pv 0) pe_int (fun _ _ => rfl)) (fun _ _ => rfl)))
  (pss_cons (ps_asg (pe_op op_add (pe_ix (r := rIxL K) ix_list (pv 0) pe_int (fun _ _ => rfl)) pe_int) (pg_sub (pv 0) pe_int set_list))
  (pss_cons (ps_if (pt_cmpR op_lt (pv 2) (pe_op op_pow pe_int pe_int) (nomark _)) (pss_one (ps_ret (pe_op op_mod (pe_callTy (r := Jv.rInt) Jv.cr_int (by rfl) O.z_int (by decide +kernel) (pa_cons (pe_call (ok_Lmix T O) (hr.mono (by decide)) (by rfl) O.m_Lmix O.F_Lmix.kp O.b_Lmix .nil pass0 (pa_cons (pe_op op_mod (pe_callTy (r := Jv.rInt) Jv.cr_int (by rfl) O.z_int (by decide +kernel) (pa_cons (pv 2) pa_nil)) pe_int) (pa_cons (pe_ix (r := rIxL K) ix_list (pv 0) pe_int (fun _ _ => rfl)) pa_nil))) pa_nil)) (pv 1)))) pss_nil)
  (pss_one (ps_asg (pv 2) (pg_sub (pv 0) pe_int set_list)))))) pss_nil)
  (pss_cons (ps_if (pt_cmpR op_gt (pe_ix (r := rIxL K) ix_list (pv 0) pe_int (fun _ _ => rfl)) pe_int (nomark _)) (pss_cons (ps_set (i := 3) sc_Ldraw.nd rfl (Or.inl rfl) (pe_ix (r := rIxL K) ix_list (pv 0) pe_int (fun _ _ => rfl)))
  (pss_cons (ps_asg (pe_op op_fdivW (pv 3) (pv 1)) (pg_sub (pv 0) pe_int set_list))
  (pss_one (ps_ret (pe_op op_mod (pe_callTy (r := Jv.rInt) Jv.cr_int (by rfl) O.z_int (by decide +kernel) (pa_cons (pv 3) pa_nil)) (pv 1)))))) pss_nil)
  (pss_cons (ps_asg (pe_op op_mod (pe_callTy (r := Jv.rInt) Jv.cr_int (by rfl) O.z_int (by decide +kernel) (pa_cons (pe_op op_add (pe_ix (r := rIxL K) ix_list (pv 0) pe_int (fun _ _ => rfl)) pe_int) pa_nil)) pe_int) (pg_sub (pv 0) pe_int set_list))
  (pss_one (ps_ret (pe_op op_mod (pe_callTy (r := Jv.rInt) Jv.cr_int (by rfl) O.z_int (by decide +kernel) (pa_cons (pe_call (ok_Lmix T O) (hr.mono (by decide)) (by rfl) O.m_Lmix O.F_Lmix.kp O.b_Lmix .nil pass0 (pa_cons (pe_ix (r := rIxL K) ix_list (pv 0) pe_int (fun _ _ => rfl)) (pa_cons (pe_ix (r := rIxL K) ix_list (pv 0) pe_int (fun _ _ => rfl)) pa_nil))) pa_nil)) (pv 1))))))), ?_⟩
  refine ⟨fun σ' H' => ∃ k c t y2 y3, σ' = [some (.ref p), some (.int m), y2, y3] ∧ Jv.HandAt H' p l ns k c t ∧ Jv.Kp p H H', ?_, ?_⟩
  · walk_at "r"
    refine Jv.r_decI (fun hc => ?_) (fun hc => ?_)
    · walk_at "r"
      refine Jv.r_dec (fun hk => ?_) (fun hk => ?_)
      · rw [List.length_map] at hk
        have hk2 : k.toNat < ns.length := by omega
        have at1 : atI (ns.map V.int) k = some (.int ns[k.toNat]) := Jv.at_i b1 (Jv.map_get hk2)
        have n0 := nn ns[k.toNat] (List.getElem_mem _)
        generalize ns[k.toNat] = z at at1 n0
        walk_at "r"
        refine' Jv.r_ixL ?hs at1 ?_
        case hs => walk_at "sq"
        walk_at "r"
        refine Jv.r_dec (fun hz => ?_) (fun hz => ?_)
        · walk_at "r"
          refine ⟨_, _, rfl, ⟨by omega, by omega, by omega, by omega⟩, fun r h1 h2 => ?_⟩
          walk_at "r"
          exact q _ _ (e0 _) (e1 _) Jv.Kp.upd ⟨_, _, _, _, Jv.Hand.set hA ⟨by omega, by omega, b3, b4, b5⟩⟩
        · walk_at "r"
          exact ⟨k + 1, z, t, _, _, rfl, Jv.Hand.set (Jv.Hand.set hA ⟨by omega, by omega, b3, b4, b5⟩) ⟨by omega, by omega, n0, b4, b5⟩, Jv.Kp.upd.trans Jv.Kp.upd⟩
      · walk_at "r"
        exact ⟨k, c, t, _, _, rfl, hA, Jv.Kp.refl⟩
    · walk_at "r"
      exact ⟨k, c, t, _, _, rfl, hA, Jv.Kp.refl⟩
  · rintro σ' H' ⟨k, c, t, y2, y3, rfl, hB, kp⟩
    obtain ⟨hp, hl, nn, few, b1, b2, b3, b4, b5⟩ := id hB
    walk_at "r"
    refine Jv.r_dec (fun hc => ?_) (fun hc => ?_)
    · walk_at "r"
      refine q _ _ (e0 _) (e1 _) (kp.trans Jv.Kp.upd) ⟨_, _, _, _, Jv.Hand.set hB ⟨b1, b2, Int.ediv_nonneg b3 (by omega), b4, b5⟩⟩
    · walk_at "r"
      refine ⟨_, _, rfl, ⟨by omega, by omega, b1, by omega⟩, fun r h1 h2 => ?_⟩
      walk_at "r"
      exact q _ _ (e0 _) (e1 _) (kp.trans Jv.Kp.upd) ⟨_, _, _, _, Jv.Hand.set hB ⟨b1, b2, b3, by omega, by omega⟩⟩
end
end K50

namespace K50
open PySem PySem.Spec PyProof.Rows L2
def sp_Lorder : Sp := fun vs H Q _ => ∃ h l m, vs = [.ref h, .int m] ∧ Jv.Hand H h l ∧ (1 ≤ m ∧ m ≤ 40) ∧ ∀ (r : Addr) (ns : List Int) (H' : Hp), ns.Perm (Jv.rgI m.toNat) → H r = none → H' r = some (.lst (ns.map V.int)) → Jv.Kp h H H' → Jv.Hand H' h l → Q (.ref r) H'
section
variable {P : Program} {w : World} {K : PySem.W.Frag} {mg : Str → Option Value} {base : Heap}
theorem ok_Lorder (T : Tx) (O : Ok K mg T) : FnOk P w K mg base CX0 3 T.f_Lorder T.d_Lorder ["_law_hand_here", "_law_many"] sp_Lorder := by
  refine O.F_Lorder.ok sc_Lorder (fun vs H Q E h => by obtain ⟨_, _, _, rfl, _⟩ := h; rfl) (fun cdv A outer s H vs Q E hr h => ?_)
  obtain ⟨h, l, m, rfl, hh, ⟨m0, m1⟩, k⟩ := h
  refine ⟨_, (pss_cons (ps_set (i := 2) sc_Lorder.nd rfl (Or.inl rfl) (pe_listRg rfl (by rfl) O.z_list (prg_1 (by rfl) O.z_range (pv 1))))
  (pss_cons (ps_set (i := 3) sc_Lorder.nd rfl (Or.inl rfl) (pe_lst pa_nil))
  (pss_cons (ps_for PassesOwn.never rfl (pi_range1 (by rfl) O.z_range (pa_cons (pv 1) pa_nil)) (pg_name (i := 4) sc_Lorder.nd rfl (Or.inl rfl)) (pss_one (ps_expr (show PE _ _ (tBM K _ _ _ _) from pe_bm PySem.F.plainAttrs_list PySem.F.slot_list_append PySem.F.type_list_append mt_append (pv 3) (pa_cons (show PE _ _ (tBM K _ _ _ _) from pe_bm PySem.F.plainAttrs_list PySem.F.slot_list_pop PySem.F.type_list_pop mt_popAt (pv 2) (pa_cons (pe_call (ok_Ldraw T O) (hr.mono (by decide)) (by rfl) O.m_Ldraw O.F_Ldraw.kp O.b_Ldraw .nil pass0 (pa_cons (pv 0) (pa_cons (pe_callB (r := Jv.rLenK K) Jv.cr_len (by rfl) O.z_len (by decide +kernel) (pa_cons (pv 2) pa_nil)) pa_nil))) pa_nil)) pa_nil)))))
  (pss_one (ps_ret (pv 3)))))), ?_⟩
  walk_at "r"
  refine ⟨_, rfl, m, rfl, RgOk.of_le (by omega) (by omega) (by omega) (by omega), fun a ha => ?_⟩
  walk_at "r"
  rw [Jv.rgV0]
  intro b hb
  walk_at "r"
  refine ⟨m, rfl, by omega, by omega, ?_⟩
  have hbH : H b = none := (Jv.same_new ha).free hb
  obtain ⟨ho, hho⟩ := hh.at
  have nah : a ≠ h := (ne_of_none hho ha).symm
  have nbh : b ≠ h := (ne_of_none hho hbH).symm
  have nba : b ≠ a := fun e => by rw [e, upd_same] at hb; cases hb
  have sab := (Jv.same_new (u := .lst ((Jv.rgI m.toNat).map V.int)) ha).trans (Jv.same_new (u := .lst []) hb)
  refine for_range (lo := 0) (n := m.toNat) (fun i σ H1 => ∃ y4 ns ms, σ = [some (.ref h), some (.int m), some (.ref a), some (.ref b), y4] ∧ Jv.Kp h H H1 ∧ Jv.Hand H1 h l ∧ H1 a = some (.lst (ms.map V.int)) ∧ H1 b = some (.lst (ns.map V.int)) ∧ (ns ++ ms).Perm (Jv.rgI m.toNat) ∧ ms.length + i = m.toNat ∧ ns.length = i) ⟨_, [], Jv.rgI m.toNat, rfl, Jv.Kp.same sab, hh.same sab, Jv.kp upd_same hb, upd_same, .refl _, by simp [Jv.rgI], rfl⟩ ?_ ?_
  · rintro i σ H1 hi ⟨y4, ns, ms, rfl, kp, h1, ea, eb, pm, le, ln⟩
    walk_at "r"
    rw [List.length_map]
    refine ⟨h, l, _, rfl, h1, ⟨by omega, Jv.log_small (by omega) (by omega)⟩, fun z H2 z0 z1 k2 h2 => ?_⟩
    have hz : z.toNat < ms.length := by omega
    have ea2 := k2 a _ nah ea
    have eb2 := k2 b _ nbh eb
    walk_at "r"
    refine Jv.r_popAt ea2 z0 (by omega) (Jv.map_get hz) ?_
    walk_at "r"
    refine Jv.r_app (by rw [upd_ne nba]; exact eb2) (by rw [List.length_map]; omega) ?_
    refine ⟨_, ns ++ [ms[z.toNat]], ms.eraseIdx z.toNat, rfl, ?_, ?_, ?_, ?_, (Jv.pop_perm (List.getElem?_eq_getElem hz)).trans pm, ?_, by rw [List.length_append, ln]; rfl⟩
    · intro c o nc hc
      have e2 := k2 c o nc (kp c o nc hc)
      have nca := ne_of_none hc ha
      have ncb := ne_of_none hc hbH
      rw [upd_ne ncb, upd_ne nca]; exact e2
    · obtain ⟨ns2, k3, c3, t3, hA⟩ := h2
      have la : l ≠ a := fun e => by
        have q := hA.hl
        rw [e, ea2] at q
        obtain ⟨ns0, k0, c0, t0, hA0⟩ := hh
        exact absurd hA0.hl (by rw [e, ha]; simp)
      have lb : l ≠ b := fun e => by
        obtain ⟨ns0, k0, c0, t0, hA0⟩ := hh
        exact absurd hA0.hl (by rw [e, hbH]; simp)
      exact ⟨ns2, k3, c3, t3, by rw [upd_ne nbh.symm, upd_ne nah.symm]; exact hA.hp, by rw [upd_ne lb, upd_ne la]; exact hA.hl, hA.nn, hA.few, hA.bd⟩
    · rw [upd_ne nba.symm, upd_same, Jv.erase_map]
    · rw [upd_same, List.map_append]; rfl
    · rw [List.length_eraseIdx_of_lt hz]; omega
  · rintro σ H1 ⟨y4, ns, ms, rfl, kp, h1, ea, eb, pm, le, ln⟩
    have em : ms = [] := List.eq_nil_of_length_eq_zero (by omega)
    subst em
    rw [List.append_nil] at pm
    walk_at "r"
    exact k b ns H1 pm hbH eb kp h1
end
end K50

namespace K50
open PySem PySem.Spec PyProof.Rows L2
/-! ### basics, of data -/
def sp_is_whole (K : PySem.W.Frag) : Sp := fun vs H Q _ => ∃ x d lo hi, vs = [x, lo, hi] ∧ Jv.Dv K H x d ∧ Jv.Bd lo ∧ Jv.Bd hi ∧ Q (.bl (Jv.wholeV x lo hi)) H
def sp_is_sequence (K : PySem.W.Frag) : Sp := fun vs H Q _ => ∃ x d, vs = [x] ∧ Jv.Dv K H x d ∧ ∀ H', Same H H' → Q (.bl (Jv.seqD d).isSome) H'
def sp_is_truth (K : PySem.W.Frag) : Sp := fun vs H Q _ => ∃ x d, vs = [x] ∧ Jv.Dv K H x d ∧ Q (.bl (Jv.boolD d)) H
def sp_are_sides (K : PySem.W.Frag) : Sp := fun vs H Q _ => ∃ x d, vs = [x] ∧ Jv.Dv K H x d ∧ ∀ H', Same H H' → Q (.bl (Jv.sidesD d)) H'
def sp_are_ends (K : PySem.W.Frag) : Sp := fun vs H Q _ => ∃ x d l, vs = [x, .int l] ∧ Jv.Dv K H x d ∧ Jv.few1 d ∧ ∀ H', Same H H' → Q (.bl (Jv.endsD l d)) H'
def sp_is_knowing (K : PySem.W.Frag) : Sp := fun vs H Q _ => ∃ x d, vs = [x] ∧ Jv.Dv K H x d ∧ ∀ H', Same H H' → Q (.bl (Jv.knowsD d)) H'
section
variable {P : Program} {w : World} {K : PySem.W.Frag} {mg : Str → Option Value} {base : Heap}
theorem ok_is_whole (T : Tx) (O : Ok K mg T) : FnOk P w K mg base CX0 1 T.f_is_whole T.d_is_whole ["thing", "low", "high"] (sp_is_whole K) := by
  refine O.F_is_whole.ok sc_is_whole (fun vs H Q E h => by obtain ⟨_, _, _, _, rfl, _⟩ := h; rfl) (fun cdv A outer s H vs Q E hr h => ?_)
  obtain ⟨x, d, lo, hi, rfl, hx, hlo, hhi, q⟩ := h
  refine ⟨_, (pss_cons (ps_if (PW.pt (pw_or (pt_val (pe_callB (r := rIsi K) call_isi (by rfl) O.z_isinstance (by decide +kernel) (pa_cons (pv 0) (pa_cons (pe_bltn (v := .ty "bool") (by rfl) O.z_bool (by decide +kernel) rfl) pa_nil)))) (pw_or1 (pt_not (pt_val (pe_callB (r := rIsi K) call_isi (by rfl) O.z_isinstance (by decide +kernel) (pa_cons (pv 0) (pa_cons (pe_bltn (v := .ty "int") (by rfl) O.z_int (by decide +kernel) rfl) pa_nil)))))))) (pss_one (ps_ret pe_bl)) pss_nil)
  (pss_cons (ps_if (PW.pt (pw_and (pt_cmpR op_notN (pv 1) pe_non (nomark _)) (pw_and1 (pt_cmpR op_lt (pv 0) (pv 1) (nomark _))))) (pss_one (ps_ret pe_bl)) pss_nil)
  (pss_one (ps_ret (pe_or (pe_cmpR op_isN (pv 2) pe_non (nomark _)) (pe_one (pe_cmpR op_le (pv 0) (pv 2) (nomark _)))))))), ?_⟩
  walk_at "r"
  have hx2 := hx
  cases hx2 with
  | int i =>
    rcases hlo with rfl | ⟨a, rfl⟩
    · rcases hhi with rfl | ⟨b, rfl⟩ <;> walk_at "r" <;> exact q
    · by_cases h : i < a
      · rw [Jv.wholeV_lo0 h] at q
        walk_at "rr" <;> exact q
      · rw [Jv.wholeV_lo1 h] at q
        rcases hhi with rfl | ⟨b, rfl⟩ <;> walk_at "rr" <;> exact q
  | _ => walk_at "r"; exact q
theorem ok_is_sequence (T : Tx) (O : Ok K mg T) : FnOk P w K mg base CX0 1 T.f_is_sequence T.d_is_sequence ["thing"] (sp_is_sequence K) := by
  refine O.F_is_sequence.ok sc_is_sequence (fun vs H Q E h => by obtain ⟨_, _, rfl, _⟩ := h; rfl) (fun cdv A outer s H vs Q E hr h => ?_)
  obtain ⟨x, d, rfl, hx, q⟩ := h
  refine ⟨_, (pss_one (ps_ret (pe_callB (r := rIsiT K) call_isiT (by rfl) O.z_isinstance (by decide +kernel) (pa_cons (pv 0) (pa_cons (pe_tup (pa_cons (pe_bltn (v := .ty "list") (by rfl) O.z_list (by decide +kernel) rfl) (pa_cons (pe_bltn (v := .ty "tuple") (by rfl) O.z_tuple (by decide +kernel) rfl) pa_nil))) pa_nil))))), ?_⟩
  walk_at "r"
  intro p hp
  have hx2 := hx.same (Jv.same_new (u := .tup [.ty "list", .ty "tuple"]) hp)
  walk_at "r"
  exact q _ (Jv.same_new hp)
theorem ok_is_truth (T : Tx) (O : Ok K mg T) : FnOk P w K mg base CX0 1 T.f_is_truth T.d_is_truth ["thing"] (sp_is_truth K) := by
  refine O.F_is_truth.ok sc_is_truth (fun vs H Q E h => by obtain ⟨_, _, rfl, _⟩ := h; rfl) (fun cdv A outer s H vs Q E hr h => ?_)
  obtain ⟨x, d, rfl, hx, q⟩ := h
  refine ⟨_, (pss_one (ps_ret (pe_or (pe_cmpR (r := Jv.rIsT) Jv.op_isT (pv 0) pe_bl (nomark _)) (pe_one (pe_cmpR (r := Jv.rIsT) Jv.op_isT (pv 0) pe_bl (nomark _)))))), ?_⟩
  rw [← Jv.boolD_iff hx] at q
  walk_at "r"
  refine ⟨_, rfl, ?_⟩
  walk_at "r"
  by_cases e : x = .bl true
  · rw [decide_eq_true e] at q ⊢
    walk_at "r"; exact q
  · rw [decide_eq_false e] at q ⊢
    walk_at "r"
    refine ⟨_, rfl, q⟩
theorem ok_are_sides (T : Tx) (O : Ok K mg T) : FnOk P w K mg base CX0 2 T.f_are_sides T.d_are_sides ["thing"] (sp_are_sides K) := by
  refine O.F_are_sides.ok sc_are_sides (fun vs H Q E h => by obtain ⟨_, _, rfl, _⟩ := h; rfl) (fun cdv A outer s H vs Q E hr h => ?_)
  obtain ⟨x, d, rfl, hx, q⟩ := h
  refine ⟨_, (pss_cons (ps_if (PW.pt (pw_or (pt_not (pt_val (pe_call (ok_is_sequence T O) (hr.mono (by decide)) (by rfl) O.m_is_sequence O.F_is_sequence.kp O.b_is_sequence .nil pass0 (pa_cons (pv 0) pa_nil)))) (pw_or1 (pt_cmpR op_ne (pe_callB (r := Jv.rLenK K) Jv.cr_len (by rfl) O.z_len (by decide +kernel) (pa_cons (pv 0) pa_nil)) pe_int (nomark _))))) (pss_one (ps_ret pe_bl)) pss_nil)
  (pss_cons (ps_if (pt_not (pt_val (pe_callB (r := rAll K) (cr_all rfl) (by rfl) O.z_all (by decide +kernel) (pa_cons (pe_lc (own := [("kinds", 1)]) (by rfl) sc_are_sides.nd (Jv.piOr (show PI _ _ _ (iList K _) from pi_list (pv 0)) (show PI _ _ _ (iTup K _) from pi_tup (pv 0))) (blkOk_by (own := [("kinds", 1)]) (N := ["thing", "kinds"]) (sc := defScope s_are_sides) (scope := ({ kind := .function, names := [(".0", .local), ("kinds", .local), ("is_whole", .globalImplicit), ("KINDS_MOST", .globalImplicit)], isGenerator := false, isCoroutine := false } : Scope)) (by decide +kernel)) (fun _ _ _ _ _ => (pg_name (i := 1) sc_are_sides.nd rfl (Or.inl rfl))) (fun _ _ _ _ _ => pts_nil) (fun _ _ _ _ _ => (pe_call (ok_is_whole T O) (hr.mono (by decide)) (by rfl) O.m_is_whole O.F_is_whole.kp O.b_is_whole .nil pass0 (pa_cons (pv 1) (pa_cons pe_int (pa_cons (pe_glob (v := .int (6)) (by rfl) O.c_KINDS_MOST ⟨_, rfl⟩) pa_nil)))))) pa_nil)))) (pss_one (ps_ret pe_bl)) pss_nil)
  (pss_one (ps_ret (pe_cmpR op_le (pe_op op_mul (pe_ix (r := rIx K) ix_seq (pv 0) (pe_glob (v := .int (0)) (by rfl) O.c_EAST ⟨_, rfl⟩) (fun _ _ => rfl)) (pe_ix (r := rIx K) ix_seq (pv 0) (pe_glob (v := .int (1)) (by rfl) O.c_WEST ⟨_, rfl⟩) (fun _ _ => rfl))) (pe_glob (v := .int (12)) (by rfl) O.c_COUPLES_MOST ⟨_, rfl⟩) (nomark _)))))), ?_⟩
  walk_at "r"
  refine ⟨_, _, rfl, hx, fun H1 s1 => ?_⟩
  walk_at "r"
  cases e : Jv.seqD d with
  | none =>
    have e2 : Jv.sidesD d = false := by unfold Jv.sidesD; rw [e]
    rw [e2] at q
    walk_at "r"; exact q _ s1
  | some ds =>
    obtain ⟨xs, sq0, al⟩ := hx.sk e
    have sq := sq0.same s1
    have al1 := al.same s1
    walk_at "r"
    refine sq.len ?_
    walk_at "r"
    refine Jv.r_ndecI (fun hl => ?_) (fun hl => ?_)
    · have e2 : Jv.sidesD d = false := by
        unfold Jv.sidesD; rw [e]
        split
        · rename_i p q e3; cases e3; rw [al.len] at hl; exact absurd rfl hl
        · rfl
      rw [e2] at q
      walk_at "r"; exact q _ s1
    · walk_at "r"
      obtain ⟨y, z, rfl⟩ : ∃ y z, xs = [y, z] := by
        match xs, hl with
        | [y, z], _ => exact ⟨y, z, rfl⟩
        | [], h => simp at h
        | [_], h => simp at h
        | _ :: _ :: _ :: r, h => simp at h; omega
      cases al1 with
      | cons h1 al1 =>
      cases al1 with
      | cons h2 al1 =>
      cases al1
      rename_i d1 d2
      refine Jv.lcK (j := 1) (i := 0) rfl sq (fun v => .bl (Jv.wholeV v (.int 1) (.int 6))) (by simp) (fun v H2 m s2 P hP => ?_) (fun D H2 s2 hD eD => ?_)
      · walk_at "r"
        rcases List.mem_cons.mp m with rfl | m
        · exact ⟨_, _, _, _, rfl, h1.same s2, .inr ⟨_, rfl⟩, .inr ⟨_, rfl⟩, hP _ (Same.refl _)⟩
        · rw [List.mem_singleton.mp m]
          rw [List.mem_singleton.mp m] at hP
          exact ⟨_, _, _, _, rfl, h2.same s2, .inr ⟨_, rfl⟩, .inr ⟨_, rfl⟩, hP _ (Same.refl _)⟩
      · walk_at "r"
        refine Jv.r_all (f := fun v => Jv.wholeV v (.int 1) (.int 6)) eD ?_
        walk_at "r"
        have es : Jv.sidesD d = (match [d1, d2] with | [.int p, .int q] => decide ((1 ≤ p ∧ p ≤ 6) ∧ (1 ≤ q ∧ q ≤ 6) ∧ p * q ≤ 12) | _ => false) := by
          unfold Jv.sidesD; rw [e]
          exact (show ∀ a b : PyData, (match (some [a, b] : Option (List PyData)) with | some [.int p, .int q] => decide ((1 ≤ p ∧ p ≤ 6) ∧ (1 ≤ q ∧ q ≤ 6) ∧ p * q ≤ 12) | _ => false) = (match [a, b] with | [.int p, .int q] => decide ((1 ≤ p ∧ p ≤ 6) ∧ (1 ≤ q ∧ q ≤ 6) ∧ p * q ≤ 12) | _ => false) from fun a b => by cases a <;> cases b <;> rfl) d1 d2
        cases eb : [y, z].all fun v => Jv.wholeV v (.int 1) (.int 6) with
        | false =>
          have e2 : Jv.sidesD d = false := by
            rw [es]
            split
            · rename_i p q e3
              cases e3
              cases h1; cases h2
              refine decide_eq_false fun hh => ?_
              have : ([V.int p, V.int q].all fun v => Jv.wholeV v (.int 1) (.int 6)) = true := by
                simp [Jv.wholeV, Jv.loOk, Jv.hiOk]; omega
              rw [this] at eb; cases eb
            · rfl
          rw [e2] at q
          walk_at "r"; exact q _ (s1.trans s2)
        | true =>
          rw [List.all_cons, List.all_cons, Bool.and_eq_true, Bool.and_eq_true] at eb
          obtain ⟨p, rfl, p1, p2⟩ := Jv.wholeV_int eb.1
          obtain ⟨r, rfl, r1, r2⟩ := Jv.wholeV_int eb.2.1
          cases h1; cases h2
          have e2 : Jv.sidesD d = decide (p * r ≤ 12) := by
            rw [es]
            exact decide_eq_decide.mpr ⟨fun h => h.2.2, fun h => ⟨⟨p1, p2⟩, ⟨r1, r2⟩, h⟩⟩
          rw [e2] at q
          walk_at "r"
          refine (sq.same s2).ix (v := .int p) rfl ?_
          walk_at "r"
          refine (sq.same s2).ix (v := .int r) rfl ?_
          walk_at "r"
          exact q _ (s1.trans s2)
end
end K50

namespace K50
open PySem PySem.Spec PyProof.Rows L2
/-! ### ends, truths, lines -/
theorem _root_.Jv.tru_lst {K : PySem.W.Frag} {H : Hp} {a : Addr} {xs : List V} (h : H a = some (.lst xs)) : TruV K (.ref a) H (!xs.isEmpty) := .inl ⟨xs, Jv.sqL_at h, rfl⟩
theorem _root_.Jv.rep_all {n : Nat} {ns : List Nat} : (n :: ns).map (fun (k : Nat) => (k : Int)) = List.replicate (ns.length + 1) (n : Int) ↔ ns.all (fun m => decide (m = n)) = true := by
  rw [List.all_eq_true, List.map_cons, List.replicate_succ, List.cons.injEq]
  constructor
  · rintro ⟨_, h⟩ m hm
    have h2 : ((m : Nat) : Int) ∈ ns.map (fun (k : Nat) => (k : Int)) := List.mem_map.mpr ⟨m, hm, rfl⟩
    rw [h] at h2
    have := List.eq_of_mem_replicate h2
    exact decide_eq_true (by omega)
  · intro h
    refine ⟨rfl, List.eq_replicate_iff.mpr ⟨by simp, fun b hb => ?_⟩⟩
    obtain ⟨m, hm, rfl⟩ := List.mem_map.mp hb
    rw [of_decide_eq_true (h m hm)]
theorem _root_.Jv.flat_one {n : Nat} {v : V} : (List.replicate n [v]).flatten = List.replicate n v := by
  induction n with
  | zero => rfl
  | succ n ih => rw [List.replicate_succ, List.flatten_cons, ih]; rfl

def sp_sides_of_lines (K : PySem.W.Frag) : Sp := fun vs H Q _ => ∃ x d, vs = [x] ∧ Jv.Dv K H x d ∧ Jv.few2 d ∧
  (Jv.linesD d = none → ∀ H', Same H H' → Q .non H') ∧ (∀ p q, Jv.linesD d = some (p, q) → ∀ t H', Same H H' → H' t = some (.tup [.int p, .int q]) → Q (.ref t) H')
section
variable {P : Program} {w : World} {K : PySem.W.Frag} {mg : Str → Option Value} {base : Heap}
theorem ok_are_ends (T : Tx) (O : Ok K mg T) : FnOk P w K mg base CX0 2 T.f_are_ends T.d_are_ends ["thing", "ladder"] (sp_are_ends K) := by
  refine O.F_are_ends.ok sc_are_ends (fun vs H Q E h => by obtain ⟨_, _, _, rfl, _⟩ := h; rfl) (fun cdv A outer s H vs Q E hr h => ?_)
  obtain ⟨x, d, l, rfl, hx, fw, q⟩ := h
  refine ⟨_, (pss_one (ps_ret (pe_and (pe_call (ok_is_sequence T O) (hr.mono (by decide)) (by rfl) O.m_is_sequence O.F_is_sequence.kp O.b_is_sequence .nil pass0 (pa_cons (pv 0) pa_nil)) (pe_and (pe_cmpR op_gt (pe_callB (r := Jv.rLenK K) Jv.cr_len (by rfl) O.z_len (by decide +kernel) (pa_cons (pv 0) pa_nil)) pe_int (nomark _)) (pe_one (pe_callB (r := rAll K) (cr_all rfl) (by rfl) O.z_all (by decide +kernel) (pa_cons (pe_lc (own := [("end", 2)]) (by rfl) sc_are_ends.nd (Jv.piOr (show PI _ _ _ (iList K _) from pi_list (pv 0)) (show PI _ _ _ (iTup K _) from pi_tup (pv 0))) (blkOk_by (own := [("end", 2)]) (N := ["thing", "ladder", "end"]) (sc := defScope s_are_ends) (scope := ({ kind := .function, names := [(".0", .local), ("end", .local), ("is_whole", .globalImplicit), ("ladder", .free)], isGenerator := false, isCoroutine := false } : Scope)) (by decide +kernel)) (fun _ _ _ _ _ => (pg_name (i := 2) sc_are_ends.nd rfl (Or.inl rfl))) (fun _ _ _ _ _ => pts_nil) (fun _ _ _ _ _ => (pe_call (ok_is_whole T O) (hr.mono (by decide)) (by rfl) O.m_is_whole O.F_is_whole.kp O.b_is_whole .nil pass0 (pa_cons (pv 2) (pa_cons (pe_un un_neg (pv 1)) (pa_cons (pv 1) pa_nil)))))) pa_nil))))))), ?_⟩
  walk_at "r"
  refine ⟨_, _, rfl, hx, fun H1 s1 => ?_⟩
  walk_at "r"
  cases e : Jv.seqD d with
  | none =>
    have e2 : Jv.endsD l d = false := by unfold Jv.endsD; rw [e]
    rw [e2] at q
    walk_at "r"; exact q _ s1
  | some ds =>
    have fw1 := fw ds e
    obtain ⟨xs, sq0, al⟩ := hx.sk e
    have sq := sq0.same s1
    have al1 := al.same s1
    have ll := al.len
    have e2 : Jv.endsD l d = (decide (0 < ds.length) && ds.all fun e => Jv.wholeD e (.int (-l)) (.int l)) := by unfold Jv.endsD; rw [e]
    rw [e2] at q
    walk_at "r"
    refine sq.len ?_
    walk_at "r"
    refine Jv.r_dec (fun h0 => ?_) (fun h0 => ?_)
    · rw [decide_eq_true (p := 0 < ds.length) (by omega), Bool.true_and] at q
      walk_at "r"
      refine Jv.lcS2 (K := K) (N := []) (j := 2) (i := 0) rfl sq .nil (ds.map fun e => .bool (Jv.wholeD e (.int (-l)) (.int l))) (by rw [List.length_map]; omega) (by omega) (fun i v e' D H2 hi hv he s2 hN hD P hP => ?_) (fun D ys H2 s2 hD eD dv _ => ?_)
      · walk_at "r"
        obtain ⟨e0, h0e, hv2⟩ := al1.at hv
        rw [List.getElem?_map, h0e] at he
        obtain rfl := Option.some.inj he
        refine ⟨_, _, _, _, rfl, hv2.same s2, .inr ⟨_, rfl⟩, .inr ⟨_, rfl⟩, ?_⟩
        rw [hv2.whole]
        exact hP _ _ (Same.refl _) (.bl _)
      · walk_at "r"
        rw [Jv.hide_nil, show (ds.map fun e => PyData.bool (Jv.wholeD e (.int (-l)) (.int l))) = (ds.map fun e => Jv.wholeD e (.int (-l)) (.int l)).map PyData.bool by rw [List.map_map]; rfl] at dv
        rw [Jv.dv_bools dv] at eD
        refine ⟨D, _, rfl, Jv.sqL_at eD, ?_⟩
        rw [List.all_map]
        exact q _ (s1.trans s2)
    · rw [decide_eq_false (p := 0 < ds.length) (by omega), Bool.false_and] at q
      walk_at "r"
      exact q _ s1
theorem ok_is_knowing (T : Tx) (O : Ok K mg T) : FnOk P w K mg base CX0 2 T.f_is_knowing T.d_is_knowing ["thing"] (sp_is_knowing K) := by
  refine O.F_is_knowing.ok sc_is_knowing (fun vs H Q E h => by obtain ⟨_, _, rfl, _⟩ := h; rfl) (fun cdv A outer s H vs Q E hr h => ?_)
  obtain ⟨x, d, rfl, hx, q⟩ := h
  refine ⟨_, (pss_one (ps_ret (pe_and (pe_call (ok_is_sequence T O) (hr.mono (by decide)) (by rfl) O.m_is_sequence O.F_is_sequence.kp O.b_is_sequence .nil pass0 (pa_cons (pv 0) pa_nil)) (pe_and (pe_cmpR op_eq (pe_callB (r := Jv.rLenK K) Jv.cr_len (by rfl) O.z_len (by decide +kernel) (pa_cons (pv 0) pa_nil)) pe_int (nomark _)) (pe_one (pe_callB (r := rAll K) (cr_all rfl) (by rfl) O.z_all (by decide +kernel) (pa_cons (pe_lc (own := [("part", 1)]) (by rfl) sc_is_knowing.nd (Jv.piOr (show PI _ _ _ (iList K _) from pi_list (pv 0)) (show PI _ _ _ (iTup K _) from pi_tup (pv 0))) (blkOk_by (own := [("part", 1)]) (N := ["thing", "part"]) (sc := defScope s_is_knowing) (scope := ({ kind := .function, names := [(".0", .local), ("part", .local), ("is_truth", .globalImplicit)], isGenerator := false, isCoroutine := false } : Scope)) (by decide +kernel)) (fun _ _ _ _ _ => (pg_name (i := 1) sc_is_knowing.nd rfl (Or.inl rfl))) (fun _ _ _ _ _ => pts_nil) (fun _ _ _ _ _ => (pe_call (ok_is_truth T O) (hr.mono (by decide)) (by rfl) O.m_is_truth O.F_is_truth.kp O.b_is_truth .nil pass0 (pa_cons (pv 1) pa_nil)))) pa_nil))))))), ?_⟩
  walk_at "r"
  refine ⟨_, _, rfl, hx, fun H1 s1 => ?_⟩
  walk_at "r"
  cases e : Jv.seqD d with
  | none =>
    have e2 : Jv.knowsD d = false := by unfold Jv.knowsD; rw [e]
    rw [e2] at q
    walk_at "r"; exact q _ s1
  | some ds =>
    obtain ⟨xs, sq0, al⟩ := hx.sk e
    have sq := sq0.same s1
    have al1 := al.same s1
    have ll := al.len
    have e2 : Jv.knowsD d = (decide (ds.length = 2) && ds.all Jv.boolD) := by unfold Jv.knowsD; rw [e]
    rw [e2] at q
    walk_at "r"
    refine sq.len ?_
    walk_at "r"
    refine Jv.r_decI (fun h0 => ?_) (fun h0 => ?_)
    · rw [decide_eq_true (p := ds.length = 2) (by omega), Bool.true_and] at q
      walk_at "r"
      refine Jv.lcS2 (K := K) (N := []) (j := 1) (i := 0) rfl sq .nil (ds.map fun e => .bool (Jv.boolD e)) (by rw [List.length_map]; omega) (by omega) (fun i v e' D H2 hi hv he s2 hN hD P hP => ?_) (fun D ys H2 s2 hD eD dv _ => ?_)
      · walk_at "r"
        obtain ⟨e0, h0e, hv2⟩ := al1.at hv
        rw [List.getElem?_map, h0e] at he
        obtain rfl := Option.some.inj he
        exact ⟨_, _, rfl, hv2.same s2, hP _ _ (Same.refl _) (.bl _)⟩
      · walk_at "r"
        rw [Jv.hide_nil, show (ds.map fun e => PyData.bool (Jv.boolD e)) = (ds.map Jv.boolD).map PyData.bool by rw [List.map_map]; rfl] at dv
        rw [Jv.dv_bools dv] at eD
        refine ⟨D, _, rfl, Jv.sqL_at eD, ?_⟩
        rw [List.all_map]
        exact q _ (s1.trans s2)
    · rw [decide_eq_false (p := ds.length = 2) (by omega), Bool.false_and] at q
      walk_at "r"
      exact q _ s1
theorem ok_sides_of_lines (T : Tx) (O : Ok K mg T) : FnOk P w K mg base CX0 2 T.f_sides_of_lines T.d_sides_of_lines ["lines"] (sp_sides_of_lines K) := by
  refine O.F_sides_of_lines.ok sc_sides_of_lines (fun vs H Q E h => by obtain ⟨_, _, rfl, _⟩ := h; rfl) (fun cdv A outer s H vs Q E hr h => ?_)
  obtain ⟨x, d, rfl, hx, fw, q1, q2⟩ := h
  refine ⟨_, (pss_cons (ps_if (PW.pt (pw_or (pt_not (pt_val (pe_call (ok_is_sequence T O) (hr.mono (by decide)) (by rfl) O.m_is_sequence O.F_is_sequence.kp O.b_is_sequence .nil pass0 (pa_cons (pv 0) pa_nil)))) (pw_or1 (pt_not (pt_val (pe_callB (r := rAll K) (cr_all rfl) (by rfl) O.z_all (by decide +kernel) (pa_cons (pe_lc (own := [("line", 2)]) (by rfl) sc_sides_of_lines.nd (Jv.piOr (show PI _ _ _ (iList K _) from pi_list (pv 0)) (show PI _ _ _ (iTup K _) from pi_tup (pv 0))) (blkOk_by (own := [("line", 2)]) (N := ["lines", "lengths", "line"]) (sc := defScope s_sides_of_lines) (scope := ({ kind := .function, names := [(".0", .local), ("line", .local), ("is_sequence", .globalImplicit)], isGenerator := false, isCoroutine := false } : Scope)) (by decide +kernel)) (fun _ _ _ _ _ => (pg_name (i := 2) sc_sides_of_lines.nd rfl (Or.inl rfl))) (fun _ _ _ _ _ => pts_nil) (fun _ _ _ _ _ => (pe_call (ok_is_sequence T O) (hr.mono (by decide)) (by rfl) O.m_is_sequence O.F_is_sequence.kp O.b_is_sequence .nil pass0 (pa_cons (pv 2) pa_nil)))) pa_nil))))))) (pss_one (ps_ret pe_non)) pss_nil)
  (pss_cons (ps_setLc (i := 1) (own := [("line", 2)]) (by rfl) sc_sides_of_lines.nd rfl rfl (sw_true rfl rfl rfl (by decide +kernel)) (Jv.piOr (show PI _ _ _ (iList K _) from pi_list (pv 0)) (show PI _ _ _ (iTup K _) from pi_tup (pv 0))) (blkOk_by (own := [("line", 2)]) (N := ["lines", "lengths", "line"]) (sc := defScope s_sides_of_lines) (scope := ({ kind := .function, names := [(".0", .local), ("line", .local), ("len", .globalImplicit)], isGenerator := false, isCoroutine := false } : Scope)) (by decide +kernel)) (fun _ _ _ _ _ => (pg_name (i := 2) sc_sides_of_lines.nd rfl (Or.inl rfl))) (fun _ _ _ _ _ => pts_nil) (fun _ _ _ _ _ => (pe_callB (r := Jv.rLenK K) Jv.cr_len (by rfl) O.z_len (by decide +kernel) (pa_cons (pv 2) pa_nil))))
  (pss_cons (ps_if (PW.pt (pw_or (pt_not (pt_truth (pv 1) (by intro _; rfl))) (pw_or1 (pt_cmpR (r := rNeD K) (op_neD hr.units) (pv 1) (pe_op op_rep (pe_lst (pa_cons (pe_ix (r := rIxL K) ix_list (pv 1) pe_int (fun _ _ => rfl)) pa_nil)) (pe_callB (r := Jv.rLenK K) Jv.cr_len (by rfl) O.z_len (by decide +kernel) (pa_cons (pv 1) pa_nil))) (nomark _))))) (pss_one (ps_ret pe_non)) pss_nil)
  (pss_one (ps_ret (pe_tup (pa_cons (pe_callB (r := Jv.rLenK K) Jv.cr_len (by rfl) O.z_len (by decide +kernel) (pa_cons (pv 1) pa_nil)) (pa_cons (pe_ix (r := rIxL K) ix_list (pv 1) pe_int (fun _ _ => rfl)) pa_nil)))))))), ?_⟩
  walk_at "r"
  refine ⟨_, _, rfl, hx, fun H1 s1 => ?_⟩
  walk_at "r"
  cases e : Jv.seqD d with
  | none =>
    have e2 : Jv.linesD d = none := by unfold Jv.linesD; rw [e]
    walk_at "r"; exact q1 e2 _ s1
  | some ds =>
    obtain ⟨fw1, fw2⟩ := fw ds e
    obtain ⟨xs, sq0, al⟩ := hx.sk e
    have sq := sq0.same s1
    have al1 := al.same s1
    have ll := al.len
    walk_at "r"
    refine Jv.lcS2 (K := K) (N := []) (j := 2) (i := 0) rfl sq .nil (ds.map fun e => .bool (Jv.seqD e).isSome) (by rw [List.length_map]; omega) (by omega) (fun i v e' D H2 hi hv he s2 hN hD P hP => ?_) (fun D ys H2 s2 hD eD dv _ => ?_)
    · walk_at "r"
      obtain ⟨e0, h0e, hv2⟩ := al1.at hv
      rw [List.getElem?_map, h0e] at he
      obtain rfl := Option.some.inj he
      exact ⟨_, _, rfl, hv2.same s2, fun H3 s3 => hP _ _ s3 (.bl _)⟩
    · walk_at "r"
      rw [Jv.hide_nil, show (ds.map fun e => PyData.bool (Jv.seqD e).isSome) = (ds.map fun e => (Jv.seqD e).isSome).map PyData.bool by rw [List.map_map]; rfl] at dv
      rw [Jv.dv_bools dv] at eD
      refine ⟨D, _, rfl, Jv.sqL_at eD, ?_⟩
      rw [List.all_map]
      walk_at "r"
      cases ea : (ds.all fun e => (Jv.seqD e).isSome) with
      | false =>
        have ea2 : (List.all ds ((fun b => id b) ∘ fun e => (Jv.seqD e).isSome)) = false := ea
        have e2 : Jv.linesD d = none := by unfold Jv.linesD; rw [e]; dsimp only; rw [ea, if_neg Bool.false_ne_true]
        rw [show (ds.all (id ∘ fun e => (Jv.seqD e).isSome)) = false from ea]
        walk_at "r"; exact q1 e2 _ (s1.trans s2)
      | true =>
        rw [show (ds.all (id ∘ fun e => (Jv.seqD e).isSome)) = true from ea]
        walk_at "r"
        have al2 := al1.same s2
        have s12 := s1.trans s2
        refine Jv.lcS2 (K := K) (N := []) (j := 2) (i := 0) rfl (sq.same s2) .nil ((ds.map fun e => (((Jv.seqD e).getD []).length : Int)).map PyData.int) (by rw [List.length_map, List.length_map]; omega) (by omega) (fun i v e' D2 H3 hi hv he s3 hN hD2 P hP => ?_) (fun D2 ys2 H3 s3 hD2 eD2 dv2 _ => ?_)
        · walk_at "r"
          obtain ⟨e0, h0e, hv2⟩ := al2.at hv
          rw [List.map_map, List.getElem?_map, h0e] at he
          obtain rfl := Option.some.inj he
          have hs := List.all_eq_true.mp ea e0 (List.mem_of_getElem? h0e)
          obtain ⟨l0, hl0⟩ := Option.isSome_iff_exists.mp hs
          obtain ⟨ys0, sk0, al0⟩ := hv2.sk hl0
          refine (sk0.same s3).len ?_
          show P (.int ys0.length) _
          rw [al0.len]
          refine hP _ _ (Same.refl _) ?_
          show Jv.Dv K _ _ (.int (((Jv.seqD e0).getD []).length : Int))
          rw [hl0]
          exact .int _
        · walk_at "r"
          rw [Jv.hide_nil] at dv2
          rw [Jv.dv_intsV dv2] at eD2
          have e3 : Jv.linesD d = (match ds.map (fun e => ((Jv.seqD e).getD []).length) with
            | [] => none
            | n :: ns => if ns.all (fun m => decide (m = n)) = true then some (ns.length + 1, n) else none) := by unfold Jv.linesD; rw [e]; dsimp only; (rw [ea, if_pos rfl]) <;> rfl
          rw [show (ds.map fun e => (((Jv.seqD e).getD []).length : Int)) = (ds.map fun e => ((Jv.seqD e).getD []).length).map fun (n : Nat) => (n : Int) by rw [List.map_map]; rfl] at eD2
          generalize eL : ds.map (fun e => ((Jv.seqD e).getD []).length) = L at eD2 e3
          have lL : L.length ≤ 100 := by rw [← eL, List.length_map]; exact fw1
          cases L with
          | nil =>
            refine ⟨false, Jv.tru_lst eD2, ?_⟩
            walk_at "r"
            exact q1 e3 _ (s12.trans s3)
          | cons n ns =>
            refine ⟨true, Jv.tru_lst eD2, ?_⟩
            walk_at "r"
            refine Jv.r_ixL (Jv.sqL_at eD2) (v := .int n) (Jv.at_i (by decide) rfl) ?_
            walk_at "r"
            intro t ht
            walk_at "r"
            rw [List.length_map, List.length_map]
            refine ⟨t, _, [.int n], rfl, rfl, upd_same, by omega, by simp at lL ⊢; omega, Jv.small_of (by simp at lL ⊢; omega), fun p hp => ?_⟩
            have e4 : (List.replicate (((n :: ns).length : Nat) : Int).toNat [V.int n]).flatten = (List.replicate (ns.length + 1) (n : Int)).map V.int := by
              rw [Jv.flat_one, List.map_replicate]; rfl
            rw [e4]
            refine ⟨_, _, Jv.dpL (by walk_at "sq"), Jv.dpL (by walk_at "sq"), Jv.shapedL _, Jv.shapedL _, ?_⟩
            rw [Jv.eqvL]
            walk_at "r"
            have sAll := (s12.trans s3).trans ((Jv.same_new (u := .lst [.int n]) ht).trans (Jv.same_new (u := .lst ((List.replicate (ns.length + 1) (n : Int)).map V.int)) hp))
            cases ec : ns.all (fun m => decide (m = n)) with
            | false =>
              dsimp only at e3
              rw [ec, if_neg Bool.false_ne_true] at e3
              rw [decide_eq_false (fun z => by rw [Jv.rep_all.mp z] at ec; cases ec)]
              walk_at "r"
              exact q1 e3 _ sAll
            | true =>
              dsimp only at e3
              rw [ec, if_pos rfl] at e3
              rw [decide_eq_true (Jv.rep_all.mpr ec)]
              walk_at "r"
              refine Jv.r_ixL (Jv.sqL_at (xs := ((n :: ns).map fun (k : Nat) => (k : Int)).map V.int) (by walk_at "hp")) (v := .int n) (Jv.at_i (by decide) rfl) ?_
              walk_at "r"
              intro u hu
              rw [List.length_map, List.length_map]
              exact q2 _ _ e3 u _ (sAll.trans (Jv.same_new hu)) upd_same
end
end K50

namespace K50
open PySem PySem.Spec PyProof.Rows L2
/-! ### goals -/
def sp_BadX_init (C : Addr) (f : Str) : Sp := fun vs H Q _ => ∃ a v, vs = [.ref a, v] ∧ H a = some (exo a C none) ∧ ∀ d, H d = none → d ≠ a → Q .non (upd (upd H d (exd d [(f, v)])) a (exo a C (some d)))
/-- sorted, each once, of numbers from -l to l -/
def neatI (l : Int) (ns : List Int) : List Int := ((List.range (2 * l + 1).toNat).map fun (i : Nat) => (i : Int) - l).filter fun n => decide (n ∈ ns)
def lineD (l : Int) (line : List (List Int)) : PyData := .tuple (line.map fun ns => .tuple ((neatI l ns).map .int))
def wantD (l : Int) (lls : List (List (List Int))) : PyData := .tuple (lls.map (lineD l))
def GAt (K : PySem.W.Frag) (H : Hp) (C a : Addr) (l : Int) (W : PyData) (k0 k1 : Bool) (p q : Int) : Prop :=
  ∃ dx w k s, H a = some (.ins C dx [("ladder", .int l), ("wanted", w), ("knows", k), ("sides", s)]) ∧ Jv.Dv K H w W ∧ Jv.Dv K H k (.tuple [.bool k0, .bool k1]) ∧ Jv.Dv K H s (.tuple [.int p, .int q])
/-- data of lines of lists of ends -/
def EndsR (e : PyData) (ns : List Int) : Prop := Jv.seqD e = some (ns.map .int)
def LineR (r : PyData) (line : List (List Int)) : Prop := ∃ es, Jv.seqD r = some es ∧ Paired EndsR es line
def LinesR (d : PyData) (lls : List (List (List Int))) : Prop := ∃ rows, Jv.seqD d = some rows ∧ Paired LineR rows lls
def sidesOf : Option (Nat × Nat) → PyData
  | none => .none
  | some (p, q) => .tuple [.int p, .int q]
def allEnds (l : Int) (d : PyData) : Bool := (((Jv.seqD d).getD []).flatMap fun r => (Jv.seqD r).getD []).all (Jv.endsD l)
def faultG (dl dw dk : PyData) : Option Str :=
  match dl with
  | .int l => if Jv.wholeD dl (.int 0) (.int 6) = false then some "ladder" else if Jv.sidesD (sidesOf (Jv.linesD dw)) = false then some "sides" else if allEnds l dw = false then some "wanted" else if Jv.knowsD dk = false then some "knows" else none
  | _ => some "ladder"
/-- what goals may be made of -/
structure GoodG (dl dw dk : PyData) (l : Int) (lls : List (List (List Int))) (k0 k1 : Bool) (p q : Nat) : Prop where
  dl : dl = .int l
  l0 : 0 ≤ l
  l6 : l ≤ 6
  dw : LinesR dw lls
  hp : lls.length = p
  hq : ∀ line ∈ lls, line.length = q
  p0 : 1 ≤ p
  p6 : p ≤ 6
  q0 : 1 ≤ q
  q6 : q ≤ 6
  pq : p * q ≤ 12
  ends : ∀ line ∈ lls, ∀ ns ∈ line, ns ≠ [] ∧ ns.length ≤ 60 ∧ ∀ n ∈ ns, -l ≤ n ∧ n ≤ l
  dk : Jv.seqD dk = some [.bool k0, .bool k1]
theorem memL {α β : Type} {F : α → β → Prop} : ∀ {xs : List α} {ys : List β} {x : α}, Paired F xs ys → x ∈ xs → ∃ y ∈ ys, F x y
  | _, _, _, .nil, m => by cases m
  | _, _, _, .cons a b, m => by
    rcases List.mem_cons.mp m with rfl | m
    · exact ⟨_, List.mem_cons_self, a⟩
    · obtain ⟨y, h1, h2⟩ := memL b m
      exact ⟨y, List.mem_cons_of_mem _ h1, h2⟩
theorem pairAt {α β : Type} {F : α → β → Prop} : ∀ {xs : List α} {ys : List β} {i : Nat} {x : α}, Paired F xs ys → xs[i]? = some x → ∃ y, ys[i]? = some y ∧ F x y
  | _, _, _, _, .nil, e => by simp at e
  | _, _, 0, _, .cons a _, e => by
    simp at e; subst e; exact ⟨_, rfl, a⟩
  | _, _, i + 1, _, .cons _ b, e => by
    simp at e ⊢; exact pairAt b e
theorem LineR.some {r : PyData} {line : List (List Int)} (h : LineR r line) : (Jv.seqD r).isSome = true := by
  obtain ⟨es, e, _⟩ := h
  rw [e]; rfl
theorem LineR.len {r : PyData} {line : List (List Int)} (h : LineR r line) : ((Jv.seqD r).getD []).length = line.length := by
  obtain ⟨es, e, p⟩ := h
  rw [e]; exact Paired.length p
theorem lines_len : ∀ {rows : List PyData} {lls : List (List (List Int))}, Paired LineR rows lls → rows.map (fun e => ((Jv.seqD e).getD []).length) = lls.map List.length
  | _, _, .nil => rfl
  | _, _, .cons a b => by rw [List.map_cons, List.map_cons, a.len, lines_len b]
section
variable {dl dw dk : PyData} {l : Int} {lls : List (List (List Int))} {k0 k1 : Bool} {p q : Nat}
theorem GoodG.lines (g : GoodG dl dw dk l lls k0 k1 p q) : Jv.linesD dw = .some (p, q) := by
  obtain ⟨rows, e, pr⟩ := g.dw
  have hall : (rows.all fun e => (Jv.seqD e).isSome) = true := List.all_eq_true.mpr fun r hr => by
    obtain ⟨line, _, h⟩ := memL pr hr
    exact h.some
  unfold Jv.linesD
  rw [e]; dsimp only
  rw [hall, if_pos rfl, lines_len pr]
  have hp := g.hp
  have hq := g.hq
  have p0 := g.p0
  cases lls with
  | nil => exfalso; rw [← hp] at p0; exact absurd p0 (by decide)
  | cons a r =>
    rw [List.map_cons]
    show (if _ then _ else _) = _
    have h1 : a.length = q := hq a List.mem_cons_self
    have h2 : (r.map List.length).all (fun m => decide (m = a.length)) = true := List.all_eq_true.mpr fun m hm => by
      obtain ⟨b, hb, rfl⟩ := List.mem_map.mp hm
      exact decide_eq_true (by rw [h1]; exact hq b (List.mem_cons_of_mem _ hb))
    rw [h2, if_pos rfl, List.length_map, h1, ← hp]; rfl
theorem GoodG.sides (g : GoodG dl dw dk l lls k0 k1 p q) : Jv.sidesD (sidesOf (Jv.linesD dw)) = true := by
  rw [g.lines]
  show decide _ = true
  have h := g.pq
  refine decide_eq_true ⟨⟨?_, ?_⟩, ⟨?_, ?_⟩, ?_⟩
  · have := g.p0; omega
  · have := g.p6; omega
  · have := g.q0; omega
  · have := g.q6; omega
  · exact_mod_cast h
theorem GoodG.allEnds (g : GoodG dl dw dk l lls k0 k1 p q) : allEnds l dw = true := by
  obtain ⟨rows, e, pr⟩ := g.dw
  unfold K50.allEnds
  rw [e]
  refine List.all_eq_true.mpr fun x hx => ?_
  obtain ⟨r, hr, hx⟩ := List.mem_flatMap.mp hx
  obtain ⟨line, hline, es, e2, pr2⟩ := memL pr hr
  rw [e2] at hx
  obtain ⟨ns, hns, h⟩ := memL pr2 hx
  obtain ⟨h1, _, h3⟩ := g.ends line hline ns hns
  unfold Jv.endsD
  rw [show Jv.seqD x = .some (ns.map .int) from h]
  show (decide _ && _) = true
  rw [decide_eq_true (by rw [List.length_map]; exact List.length_pos_iff.mpr h1), Bool.true_and, List.all_map, List.all_eq_true]
  intro n hn
  obtain ⟨a, b⟩ := h3 n hn
  show (decide (-l ≤ n) && decide (n ≤ l)) = true
  rw [decide_eq_true a, decide_eq_true b]; rfl
theorem GoodG.knows (g : GoodG dl dw dk l lls k0 k1 p q) : Jv.knowsD dk = true := by
  unfold Jv.knowsD
  rw [g.dk]; rfl
theorem GoodG.whole (g : GoodG dl dw dk l lls k0 k1 p q) : Jv.wholeD dl (.int 0) (.int 6) = true := by
  rw [g.dl]
  show (decide (0 ≤ l) && decide (l ≤ 6)) = true
  rw [decide_eq_true g.l0, decide_eq_true g.l6]; rfl
theorem GoodG.nofault (g : GoodG dl dw dk l lls k0 k1 p q) : faultG dl dw dk = none := by
  have h1 := g.whole; have h2 := g.sides; have h3 := g.allEnds; have h4 := g.knows; have h5 := g.dl
  subst h5
  unfold faultG
  dsimp only
  rw [h1, h2, h3, h4]; rfl
end
theorem neat_eq {l : Int} {ns ms : List Int} (h : ∀ n ∈ ns, -l ≤ n ∧ n ≤ l) (hs : ms.Pairwise (· < ·)) (hm : ∀ k : Int, k ∈ ms ↔ decide (k ∈ ns) = true) : ms = neatI l ns := by
  refine Jv.sorted_ext hs ?_ fun n => ?_
  · unfold neatI
    refine List.Pairwise.filter _ ?_
    rw [List.pairwise_map]
    exact List.pairwise_lt_range.imp fun h => by omega
  · rw [hm n, decide_eq_true_iff]
    unfold neatI
    rw [List.mem_filter, decide_eq_true_iff]
    refine ⟨fun m => ⟨?_, m⟩, fun m => m.2⟩
    obtain ⟨a, b⟩ := h n m
    exact List.mem_map.mpr ⟨(n + l).toNat, by rw [List.mem_range]; omega, by omega⟩
theorem raise_same {H : Hp} {a d : Addr} {x y z u : HO} (ha : H a = none) (hd : H d = none) : Same H (upd (del (upd (upd (upd H a x) d y) a z) a) d u) := fun b o hb => by
  have na := ne_of_none hb ha
  have nd := ne_of_none hb hd
  rw [upd_ne nd, del_ne na, upd_ne na, upd_ne nd, upd_ne na]
  exact hb
def sp_Goals_init (K : PySem.W.Frag) (C CB : Addr) : Sp := fun vs H Q E => ∃ a dx xl dl xw dw xk dk, vs = [.ref a, xl, xw, xk] ∧ H a = some (.ins C dx []) ∧ Jv.Dv K H xl dl ∧ Jv.Dv K H xw dw ∧ Jv.few3 dw ∧ Jv.Dv K H xk dk ∧
  ((∃ f, faultG dl dw dk = some f ∧ ∀ d H', Same H H' → H' d = some (.xd [("what", .str f)]) → E (.ref CB) (some d) H') ∨
   (∃ l lls k0 k1 p q, GoodG dl dw dk l lls k0 k1 p q ∧ ∀ H', (∀ b o, b ≠ a → H b = some o → H' b = some o) → GAt K H' C a l (wantD l lls) k0 k1 p q → Q .non H'))
section
variable {P : Program} {w : World} {K : PySem.W.Frag} {mg : Str → Option Value} {base : Heap}
theorem ok_BadGoalsu_initu (T : Tx) (O : Ok K mg T) : FnOk P w K mg base CX0 1 T.f_BadGoalsu_initu T.d_BadGoalsu_initu ["self", "what"] (sp_BadX_init T.C_BadGoals "what") := by
  refine O.F_BadGoalsu_initu.ok sc_BadGoalsu_initu (fun vs H Q E h => by obtain ⟨_, _, rfl, _⟩ := h; rfl) (fun cdv A outer s H vs Q E hr h => ?_)
  obtain ⟨a, v, rfl, ha, q⟩ := h
  refine ⟨_, (pss_one (ps_ost (pv 0) (pv 1))), ?_⟩
  exact ⟨_, rfl, _, rfl, a, T.C_BadGoals, rfl, O.x_BadGoals.o, O.n_BadGoals_what, .inl ⟨ha, fun d hd ne => q d hd ne⟩⟩
theorem ok_Goalsu_initu (T : Tx) (O : Ok K mg T) : FnOk P w K mg base (L2.CX P w) 3 T.f_Goalsu_initu T.d_Goalsu_initu ["self", "ladder", "wanted", "knows"] (sp_Goals_init K T.C_Goals T.C_BadGoals) := by
  refine FunD.ok O.F_Goalsu_initu sc_Goalsu_initu (fun vs H Q E h => by obtain ⟨_, _, _, _, _, _, _, _, rfl, _⟩ := h; rfl) (fun cdv A outer s H vs Q E hr h => ?_)
  obtain ⟨a, dx, xl, dl, xw, dw, xk, dk, rfl, ha, hl, hw, fw, hk, q⟩ := h
  refine ⟨_, (pss_cons (ps_if (pt_not (pt_val (pe_call (ok_is_whole T O) (hr.mono (by decide)) (by rfl) O.m_is_whole O.F_is_whole.kp O.b_is_whole .nil pass0 (pa_cons (pv 1) (pa_cons pe_int (pa_cons (pe_glob (v := .int (6)) (by rfl) O.c_LADDER_MOST ⟨_, rfl⟩) pa_nil)))))) (pss_one (ps_raise rfl (takes_of rfl rfl rfl rfl) (pmk_oex O.x_BadGoals.o O.x_BadGoals.n O.x_BadGoals.y (ok_BadGoalsu_initu T O) (hr.mono (by decide)) O.b_BadGoalsu_initu .nil pass0 (by rfl) O.m_BadGoals (pa_cons pe_str pa_nil)))) pss_nil)
  (pss_cons (ps_set (i := 4) sc_Goalsu_initu.nd rfl (Or.inl rfl) (pe_call (ok_sides_of_lines T O) (hr.mono (by decide)) (by rfl) O.m_sides_of_lines O.F_sides_of_lines.kp O.b_sides_of_lines .nil pass0 (pa_cons (pv 2) pa_nil)))
  (pss_cons (ps_if (pt_not (pt_val (pe_call (ok_are_sides T O) (hr.mono (by decide)) (by rfl) O.m_are_sides O.F_are_sides.kp O.b_are_sides .nil pass0 (pa_cons (pv 4) pa_nil)))) (pss_one (ps_raise rfl (takes_of rfl rfl rfl rfl) (pmk_oex O.x_BadGoals.o O.x_BadGoals.n O.x_BadGoals.y (ok_BadGoalsu_initu T O) (hr.mono (by decide)) O.b_BadGoalsu_initu .nil pass0 (by rfl) O.m_BadGoals (pa_cons pe_str pa_nil)))) pss_nil)
  (pss_cons (ps_if (pt_not (pt_val (pe_callB (r := rAll K) (cr_all rfl) (by rfl) O.z_all (by decide +kernel) (pa_cons (pe_lc2 (own := [("line", 5), ("ends", 6)]) (vs1 := [6]) (by rfl) sc_Goalsu_initu.nd (Jv.piOr (show PI _ _ _ (iList K _) from pi_list (pv 2)) (show PI _ _ _ (iTup K _) from pi_tup (pv 2))) (blkOk_by (own := [("line", 5), ("ends", 6)]) (N := ["self", "ladder", "wanted", "knows", "sides", "line", "ends"]) (sc := defScope s_Goalsu_initu) (by decide +kernel)) (by decide) (fun _ _ _ _ _ => (pg_name (i := 5) sc_Goalsu_initu.nd rfl (Or.inl rfl))) (fun _ _ _ _ _ => pts_nil) (fun _ _ _ _ _ => (Jv.piOr (show PI _ _ _ (iList K _) from pi_list (pv 5)) (show PI _ _ _ (iTup K _) from pi_tup (pv 5)))) (fun _ _ _ _ _ => (pg_name (i := 6) sc_Goalsu_initu.nd rfl (Or.inl rfl))) (fun _ _ _ _ _ => pts_nil) (fun _ _ _ _ _ => (pe_call (ok_are_ends T O) (hr.mono (by decide)) (by rfl) O.m_are_ends O.F_are_ends.kp O.b_are_ends .nil pass0 (pa_cons (pv 6) (pa_cons (pv 1) pa_nil))))) pa_nil)))) (pss_one (ps_raise rfl (takes_of rfl rfl rfl rfl) (pmk_oex O.x_BadGoals.o O.x_BadGoals.n O.x_BadGoals.y (ok_BadGoalsu_initu T O) (hr.mono (by decide)) O.b_BadGoalsu_initu .nil pass0 (by rfl) O.m_BadGoals (pa_cons pe_str pa_nil)))) pss_nil)
  (pss_cons (ps_if (pt_not (pt_val (pe_call (ok_is_knowing T O) (hr.mono (by decide)) (by rfl) O.m_is_knowing O.F_is_knowing.kp O.b_is_knowing .nil pass0 (pa_cons (pv 3) pa_nil)))) (pss_one (ps_raise rfl (takes_of rfl rfl rfl rfl) (pmk_oex O.x_BadGoals.o O.x_BadGoals.n O.x_BadGoals.y (ok_BadGoalsu_initu T O) (hr.mono (by decide)) O.b_BadGoalsu_initu .nil pass0 (by rfl) O.m_BadGoals (pa_cons pe_str pa_nil)))) pss_nil)
  (pss_cons (ps_fld (pv 0) (pv 1) rfl)
  (pss_cons (ps_fld (pv 0) (pe_callTy (r := Jv.rTupOf K) call_tuple_of (by rfl) O.z_tuple (by decide +kernel) (pa_cons (pe_lc (own := [("line", 5)]) (by rfl) sc_Goalsu_initu.nd (Jv.piOr (show PI _ _ _ (iList K _) from pi_list (pv 2)) (show PI _ _ _ (iTup K _) from pi_tup (pv 2))) (blkOk_by (own := [("line", 5)]) (N := ["self", "ladder", "wanted", "knows", "sides", "line", "ends"]) (sc := defScope s_Goalsu_initu) (scope := ({ kind := .function, names := [(".0", .local), ("line", .local), ("tuple", .globalImplicit)], isGenerator := false, isCoroutine := false } : Scope)) (by decide +kernel)) (fun _ _ _ _ _ => (pg_name (i := 5) sc_Goalsu_initu.nd rfl (Or.inl rfl))) (fun _ _ _ _ _ => pts_nil) (fun _ _ _ _ _ => (pe_callTy (r := Jv.rTupOf K) call_tuple_of (by rfl) O.z_tuple (by decide +kernel) (pa_cons (pe_lc (own := [("ends", 6)]) (by rfl) sc_Goalsu_initu.nd (Jv.piOr (show PI _ _ _ (iList K _) from pi_list (pv 5)) (show PI _ _ _ (iTup K _) from pi_tup (pv 5))) (blkOk_by (own := [("ends", 6)]) (N := ["self", "ladder", "wanted", "knows", "sides", "line", "ends"]) (sc := ({ kind := .function, names := [(".0", .local), ("line", .local), ("tuple", .globalImplicit)], isGenerator := false, isCoroutine := false } : Scope)) (scope := ({ kind := .function, names := [(".0", .local), ("ends", .local), ("tuple", .globalImplicit), ("sorted", .globalImplicit), ("set", .globalImplicit)], isGenerator := false, isCoroutine := false } : Scope)) (by decide +kernel)) (fun _ _ _ _ _ => (pg_name (i := 6) sc_Goalsu_initu.nd rfl (Or.inl rfl))) (fun _ _ _ _ _ => pts_nil) (fun _ _ _ _ _ => (pe_callTy (r := Jv.rTupOf K) call_tuple_of (by rfl) O.z_tuple (by decide +kernel) (pa_cons (pe_callB (r := rSortedSet w) (cr_sortedSet rfl) (by rfl) O.z_sorted (by decide +kernel) (pa_cons (pe_callTy (r := Jv.rSetI K w) (Jv.cr_setI rfl) (by rfl) O.z_set (by decide +kernel) (pa_cons (pv 6) pa_nil)) pa_nil)) pa_nil)))) pa_nil)))) pa_nil)) rfl)
  (pss_cons (ps_fld (pv 0) (pe_callTy (r := Jv.rTupOf K) call_tuple_of (by rfl) O.z_tuple (by decide +kernel) (pa_cons (pv 3) pa_nil)) rfl)
  (pss_one (ps_fld (pv 0) (pv 4) rfl)))))))))), ?_⟩
  walk_at "r"
  have ea : ∀ (f : Str) (Hx : Hp), Same H Hx → faultG dl dw dk = some f → ∀ d H', Same Hx H' → H' d = some (.xd [("what", .str f)]) → E (.ref T.C_BadGoals) (some d) H' := fun f Hx sx hf d H' s' hd => by
    rcases q with ⟨f2, hf2, q⟩ | ⟨l, lls, k0, k1, p, q0, g, _⟩
    · rw [hf] at hf2; cases hf2
      exact q d H' (sx.trans s') hd
    · rw [g.nofault] at hf; cases hf
  have rz : ∀ (f : Str) (Hx : Hp) (σ : L2.St), Same H Hx → faultG dl dw dk = some f → tMkO T.C_BadGoals (sp_BadX_init T.C_BadGoals "what") [] (tCons (tC (.str f)) tNil) σ Hx (fun cls d H' => E cls d H') := fun f Hx σ sx hf =>
    ⟨Nat.le_of_ble_eq_true rfl, fun a ha => ⟨a, _, rfl, upd_same, fun d hd ne => ⟨rfl, d, _, upd_same, by rw [upd_ne ne]; exact upd_same, by rw [upd_ne ne] at hd; exact hd, by
      rw [upd_ne ne] at hd
      exact ea _ Hx sx hf d _ (raise_same ha hd) upd_same⟩⟩⟩
  refine ⟨_, _, _, _, rfl, hl, .inr ⟨_, rfl⟩, .inr ⟨_, rfl⟩, ?_⟩
  rw [hl.whole]
  walk_at "r"
  cases ew : Jv.wholeD dl (.int 0) (.int 6) with
  | false =>
    have ef : faultG dl dw dk = some ("ladder" : Str) := by
      unfold faultG
      cases dl with
      | int l => dsimp only; rw [ew, if_pos rfl]
      | _ => rfl
    walk_at "r"
    exact rz _ _ _ (Same.refl _) ef
  | true =>
  obtain ⟨l, rfl, l0, l6⟩ := Jv.wholeD_int ew
  have fG : ∀ x, faultG (.int l) dw dk = some x ↔ (if Jv.sidesD (sidesOf (Jv.linesD dw)) = false then some ("sides" : Str) else if allEnds l dw = false then some ("wanted" : Str) else if Jv.knowsD dk = false then some ("knows" : Str) else none) = some x := fun x => by
    unfold faultG
    dsimp only
    rw [ew, if_neg (by decide)]
  cases hl
  walk_at "r"
  have fw2 : Jv.few2 dw := fun ds e => ⟨(fw ds e).1, fun x hx es he => ((fw ds e).2 x hx es he).1⟩
  refine ⟨_, _, rfl, hw, fw2, fun en H1 s1 => ?_, fun p0 q0 en t H1 s1 ht => ?_⟩
  · walk_at "r"
    refine ⟨_, _, rfl, .non, fun H2 s2 => ?_⟩
    walk_at "r"
    exact rz _ _ _ (s1.trans s2) ((fG _).mpr (by rw [en]; rfl))
  · walk_at "r"
    refine ⟨_, _, rfl, .tup (Jv.sqT_at ht) (.cons (.int _) (.cons (.int _) .nil)), fun H2 s2 => ?_⟩
    have s12 := s1.trans s2
    have ht2 := s2 _ _ ht
    walk_at "r"
    have hso : sidesOf (Jv.linesD dw) = .tuple [.int p0, .int q0] := by rw [en]; rfl
    cases es : Jv.sidesD (.tuple [.int p0, .int q0]) with
    | false =>
      walk_at "r"
      exact rz _ _ _ s12 ((fG _).mpr (by rw [hso, es]; rfl))
    | true =>
    walk_at "r"
    have hrows : ∃ rows, Jv.seqD dw = some rows ∧ rows.all (fun e => (Jv.seqD e).isSome) = true := by
      unfold Jv.linesD at en
      cases er : Jv.seqD dw with
      | none => rw [er] at en; cases en
      | some rows =>
        refine ⟨rows, rfl, ?_⟩
        rw [er] at en; dsimp only at en
        cases hb : rows.all (fun e => (Jv.seqD e).isSome) with
        | true => rfl
        | false => rw [hb, if_neg Bool.false_ne_true] at en; cases en
    obtain ⟨rows, er, hall⟩ := hrows
    obtain ⟨xs, skw, alw⟩ := hw.sk er
    obtain ⟨fr1, fr2⟩ := fw rows er
    refine Jv.lc2D (K := K) (N := []) (i := 2) (a := 5) (b := 6) rfl (skw.same s12) (alw.same s12) .nil (fun e => .bool (Jv.endsD l e)) (fun e he => ?_) fr1 (fun _ => rfl) (fun _ _ => rfl) (fun _ => rfl) (fun v u d D H3 du hd3 s3 hN hD PP hP => ?_) (fun D ys H3 s3 hD eD dv => ?_)
    · obtain ⟨z, hz⟩ := Option.isSome_iff_exists.mp (List.all_eq_true.mp hall e he)
      exact ⟨z, hz, (fr2 e he z hz).1⟩
    · obtain ⟨e, he, z, hz, hd3⟩ := hd3
      walk_at "r"
      exact ⟨_, _, _, rfl, du, (fr2 e he z hz).2 d hd3, fun H4 s4 => hP _ _ s4 (.bl _)⟩
    · walk_at "r"
      rw [Jv.hide_nil] at dv
      have efl : rows.flatMap (Jv.rowG fun e => .bool (Jv.endsD l e)) = ((rows.flatMap fun r => (Jv.seqD r).getD []).map (Jv.endsD l)).map PyData.bool := by
        rw [List.map_map, List.map_flatMap]; rfl
      rw [efl] at dv
      rw [Jv.dv_bools dv] at eD
      refine ⟨D, _, rfl, Jv.sqL_at eD, ?_⟩
      have eae : ((rows.flatMap fun r => (Jv.seqD r).getD []).map (Jv.endsD l)).all id = allEnds l dw := by
        rw [List.all_map]; unfold allEnds; rw [er]; rfl
      rw [eae]
      walk_at "r"
      have s13 := s12.trans s3
      cases eE : allEnds l dw with
      | false =>
        walk_at "r"
        exact rz _ _ _ s13 ((fG _).mpr (by rw [hso, es, eE]; rfl))
      | true =>
      walk_at "r"
      refine ⟨_, _, rfl, hk.same s13, fun H4 s4 => ?_⟩
      have s14 := s13.trans s4
      walk_at "r"
      cases eK : Jv.knowsD dk with
      | false =>
        walk_at "r"
        exact rz _ _ _ s14 ((fG _).mpr (by rw [hso, es, eE, eK]; rfl))
      | true =>
      walk_at "r"
      rcases q with ⟨f, hf, _⟩ | ⟨l', lls, k0, k1, p, q', g, qk⟩
      · have := (fG _).mp hf
        rw [hso, es, eE, eK] at this
        cases this
      have el : l = l' := PyData.int.inj g.dl
      subst el
      have epq := g.lines
      rw [en] at epq
      cases epq
      have ha4 := s14 _ _ ha
      refine Jv.r_sfld ?_
      walk_at "r"
      refine ⟨a, _, dx, [], rfl, ha4, O.o_Goals, O.n_Goals_ladder, by decide, ?_⟩
      walk_at "r"
      have hw5 := (hw.same s14).ins (o := .ins T.C_Goals dx (putF "ladder" (.int l) [])) ha4
      have hk5 := (hk.same s14).ins (o := .ins T.C_Goals dx (putF "ladder" (.int l) [])) ha4
      have ht5 : upd H4 a (.ins T.C_Goals dx (putF "ladder" (.int l) [])) t = some (.tup [.int p0, .int q0]) := by
        have h4 := s4 _ _ (s3 _ _ ht2)
        exact Jv.kpO h4 fun e => by rw [e, ha4] at h4; cases h4
      have old5 : ∀ b o, b ≠ a → H b = some o → upd H4 a (.ins T.C_Goals dx (putF "ladder" (.int l) [])) b = some o := fun b o nb hb => Jv.kpO (s14 _ _ hb) nb
      have ha5 : upd H4 a (.ins T.C_Goals dx (putF "ladder" (.int l) [])) a = some (.ins T.C_Goals dx [("ladder", .int l)]) := upd_same
      generalize upd H4 a (.ins T.C_Goals dx (putF "ladder" (.int l) [])) = H5 at hw5 hk5 ht5 old5 ha5 ⊢
      obtain ⟨ws, skw5, alw5⟩ := hw5.sk er
      obtain ⟨rows', er', prw⟩ := g.dw
      rw [er] at er'
      cases er'
      refine Jv.r_sfld ?_
      walk_at "r"
      have lws := alw5.len
      have lrw := Paired.length prw
      refine Jv.lcS2 (K := K) (N := []) (j := 5) (i := 2) rfl skw5 .nil (lls.map (lineD l)) (by rw [List.length_map]; omega) (by omega) (fun i v e D1 H6 hi hv he s6 hN1 hD1 PP hP => ?_) (fun D1 ys H6 s6 hD1 eD1 dv1 _ => ?_)
      · obtain ⟨r, hr, dr⟩ := alw5.at hv
        obtain ⟨line, hline, hLR⟩ := pairAt prw hr
        rw [List.getElem?_map, hline] at he
        obtain rfl := Option.some.inj he
        obtain ⟨es', ers, prl⟩ := hLR
        obtain ⟨us, sku, alu⟩ := (dr.same s6).sk ers
        have hends := g.ends line (List.mem_of_getElem? hline)
        have hrm := List.mem_of_getElem? hr
        have fq := (fr2 r hrm es' ers).1
        have lus := alu.len
        have lpl := Paired.length prl
        walk_at "r"
        refine Jv.lcS2 (K := K) (N := [D1]) (j := 6) (i := 5) rfl sku hN1 (line.map fun ns => .tuple ((neatI l ns).map .int)) (by rw [List.length_map]; omega) (by omega) (fun i2 u e2 D2 H7 hi2 hu he2 s7 hN2 hD2 PP2 hP2 => ?_) (fun D2 ys2 H7 s7 hD2 eD2 dv2 _ => ?_)
        · obtain ⟨e0, he0, du0⟩ := alu.at hu
          obtain ⟨ns, hns, hER⟩ := pairAt prl he0
          rw [List.getElem?_map, hns] at he2
          obtain rfl := Option.some.inj he2
          obtain ⟨us2, ⟨b, eb, hb⟩, al2⟩ := (du0.same s7).sk hER
          subst eb
          rw [Jv.dv_intsV al2] at hb
          obtain ⟨_, few60, hin⟩ := hends ns (List.mem_of_getElem? hns)
          walk_at "r"
          refine ⟨b, ns, rfl, hb, by omega, fun c n hc hn => ?_⟩
          walk_at "r"
          refine ⟨c, _, n, rfl, upd_same, by omega, fun ms r hs hm _ hr => ?_⟩
          walk_at "r"
          refine ⟨r, _, rfl, .inl ⟨Jv.sqL_at upd_same, fun t2 ht2 => ?_⟩⟩
          have em := neat_eq hin hs hm
          subst em
          have sc := (Jv.same_new (u := SetO w c (fun j => decide (j ∈ ns)) n) hc).trans (Jv.same_new (u := .lst ((neatI l ns).map V.int)) hr)
          exact hP2 _ _ (sc.trans (Jv.same_new ht2)) (Jv.dv_new ht2 (hN2.same sc) (Jv.dv_ints _))
        · walk_at "r"
          refine ⟨D2, _, rfl, .inl ⟨Jv.sqL_at eD2, fun t2 ht2 => ?_⟩⟩
          exact hP _ _ (s7.trans (Jv.same_new ht2)) (Jv.dv_new ht2 (hN1.same s7) dv2)
      · walk_at "r"
        refine ⟨D1, _, rfl, .inl ⟨Jv.sqL_at eD1, fun t2 ht2 => ?_⟩⟩
        rw [Jv.hide_nil] at dv1
        have hW : Jv.Dv K (upd H6 t2 (.tup ys)) (.ref t2) (wantD l lls) := .tup (Jv.sqT_at upd_same) (dv1.same (Jv.same_new ht2))
        have s6n := s6.trans (Jv.same_new (u := .tup ys) ht2)
        have ha7 := s6n _ _ ha5
        have hk7 := hk5.same s6n
        have ht7 := s6n _ _ ht5
        have old7 : ∀ b o, b ≠ a → H b = some o → upd H6 t2 (.tup ys) b = some o := fun b o nb hb => s6n _ _ (old5 b o nb hb)
        generalize upd H6 t2 (.tup ys) = H7 at hW ha7 hk7 ht7 old7 ⊢
        walk_at "r"
        refine ⟨a, _, dx, _, rfl, ha7, O.o_Goals, O.n_Goals_wanted, Nat.le_of_ble_eq_true rfl, ?_⟩
        walk_at "r"
        have hW8 := hW.ins (o := .ins T.C_Goals dx (putF "wanted" (.ref t2) [("ladder", .int l)])) ha7
        have hk8 := hk7.ins (o := .ins T.C_Goals dx (putF "wanted" (.ref t2) [("ladder", .int l)])) ha7
        have ht8 : upd H7 a (.ins T.C_Goals dx (putF "wanted" (.ref t2) [("ladder", .int l)])) t = some (.tup [.int p0, .int q0]) := Jv.kpO ht7 fun e => by rw [e, ha7] at ht7; cases ht7
        have old8 : ∀ b o, b ≠ a → H b = some o → upd H7 a (.ins T.C_Goals dx (putF "wanted" (.ref t2) [("ladder", .int l)])) b = some o := fun b o nb hb => Jv.kpO (old7 b o nb hb) nb
        have ha8 : upd H7 a (.ins T.C_Goals dx (putF "wanted" (.ref t2) [("ladder", .int l)])) a = some (.ins T.C_Goals dx [("ladder", .int l), ("wanted", .ref t2)]) := upd_same
        generalize upd H7 a (.ins T.C_Goals dx (putF "wanted" (.ref t2) [("ladder", .int l)])) = H8 at hW8 hk8 ht8 old8 ha8 ⊢
        refine Jv.r_sfld ?_
        walk_at "r"
        obtain ⟨ks, skk, alk⟩ := hk8.sk g.dk
        refine skk.tup fun tk H9 s9 hT => ?_
        walk_at "r"
        have ha9 := s9 _ _ ha8
        refine ⟨a, _, dx, _, rfl, ha9, O.o_Goals, O.n_Goals_knows, Nat.le_of_ble_eq_true rfl, ?_⟩
        walk_at "r"
        have hK9 : Jv.Dv K H9 (.ref tk) (.tuple [.bool k0, .bool k1]) := .tup hT (alk.same s9)
        have hW9 := (hW8.same s9).ins (o := .ins T.C_Goals dx (putF "knows" (.ref tk) [("ladder", .int l), ("wanted", .ref t2)])) ha9
        have hKA := hK9.ins (o := .ins T.C_Goals dx (putF "knows" (.ref tk) [("ladder", .int l), ("wanted", .ref t2)])) ha9
        have ht9 := s9 _ _ ht8
        have htA : upd H9 a (.ins T.C_Goals dx (putF "knows" (.ref tk) [("ladder", .int l), ("wanted", .ref t2)])) t = some (.tup [.int p0, .int q0]) := Jv.kpO ht9 fun e => by rw [e, ha9] at ht9; cases ht9
        have oldA : ∀ b o, b ≠ a → H b = some o → upd H9 a (.ins T.C_Goals dx (putF "knows" (.ref tk) [("ladder", .int l), ("wanted", .ref t2)])) b = some o := fun b o nb hb => Jv.kpO (s9 _ _ (old8 b o nb hb)) nb
        have haA : upd H9 a (.ins T.C_Goals dx (putF "knows" (.ref tk) [("ladder", .int l), ("wanted", .ref t2)])) a = some (.ins T.C_Goals dx [("ladder", .int l), ("wanted", .ref t2), ("knows", .ref tk)]) := upd_same
        generalize upd H9 a (.ins T.C_Goals dx (putF "knows" (.ref tk) [("ladder", .int l), ("wanted", .ref t2)])) = HA at hW9 hKA htA oldA haA ⊢
        show sFld K (tVar 0) (tVar 4) "sides" _ _ _
        refine Jv.r_sfld ?_
        walk_at "r"
        refine ⟨a, _, dx, _, rfl, haA, O.o_Goals, O.n_Goals_sides, Nat.le_of_ble_eq_true rfl, ?_⟩
        refine qk _ (fun b o nb hb => Jv.kpO (oldA b o nb hb) nb) ⟨dx, _, _, _, upd_same, hW9.ins haA, hKA.ins haA, .tup (Jv.sqT_at (Jv.kpO htA fun e => by rw [e, haA] at htA; cases htA)) (.cons (.int _) (.cons (.int _) .nil))⟩
end
end K50

namespace K50
open PySem PySem.Spec PyProof.Rows L2
/-! ### costs: what they are made of -/
def entD (l : Int) (d : PyData) : Bool := match Jv.seqD d with
  | some ds => decide ((ds.length : Int) = l + 1) && ds.all fun e => Jv.wholeD e (.int 0) (.int 1000000)
  | none => false
def sp_is_entry (K : PySem.W.Frag) : Sp := fun vs H Q _ => ∃ x d l, vs = [x, .int l] ∧ Jv.Dv K H x d ∧ Jv.few1 d ∧ ∀ H', Same H H' → Q (.bl (entD l d)) H'
def allEnt (l : Int) (d : PyData) : Bool := (((Jv.seqD d).getD []).flatMap fun r => (Jv.seqD r).getD []).all (entD l)
def faultC (dl dw : PyData) : Option Str :=
  match dl with
  | .int l => if Jv.wholeD dl (.int 0) (.int 6) = false then some "ladder" else if Jv.sidesD (sidesOf (Jv.linesD dw)) = false then some "sides" else if allEnt l dw = false then some "cost" else none
  | _ => some "ladder"
structure Gc (l : Int) (L : List (List (List Int))) (p q : Nat) : Prop where
  l0 : 0 ≤ l
  l6 : l ≤ 6
  hp : L.length = p
  hq : ∀ line ∈ L, line.length = q
  p0 : 1 ≤ p
  p6 : p ≤ 6
  q0 : 1 ≤ q
  q6 : q ≤ 6
  pq : p * q ≤ 12
  len : ∀ line ∈ L, ∀ ns ∈ line, (ns.length : Int) = l + 1
  ent : ∀ line ∈ L, ∀ ns ∈ line, ∀ n ∈ ns, 0 ≤ n ∧ n ≤ 1000000
structure GoodC (dl dw : PyData) (l : Int) (L : List (List (List Int))) (p q : Nat) : Prop where
  dl : dl = .int l
  dw : LinesR dw L
  g : Gc l L p q
def rowT (line : List (List Int)) : PyData := .tuple (line.map fun ns => .tuple (ns.map .int))
def linT (L : List (List (List Int))) : PyData := .tuple (L.map rowT)
def CAt (K : PySem.W.Frag) (H : Hp) (C a : Addr) (l : Int) (W : PyData) (p q : Int) : Prop :=
  ∃ dx w s, H a = some (.ins C dx [("ladder", .int l), ("lines", w), ("sides", s)]) ∧ Jv.Dv K H w W ∧ Jv.Dv K H s (.tuple [.int p, .int q])
section
variable {dl dw : PyData} {l : Int} {L : List (List (List Int))} {p q : Nat}
theorem GoodC.lines (g : GoodC dl dw l L p q) : Jv.linesD dw = .some (p, q) := by
  obtain ⟨rows, e, pr⟩ := g.dw
  have hall : (rows.all fun e => (Jv.seqD e).isSome) = true := List.all_eq_true.mpr fun r hr => by
    obtain ⟨line, _, h⟩ := memL pr hr
    exact h.some
  unfold Jv.linesD
  rw [e]; dsimp only
  rw [hall, if_pos rfl, lines_len pr]
  have hp := g.g.hp
  have hq := g.g.hq
  have p0 := g.g.p0
  cases L with
  | nil => exfalso; rw [← hp] at p0; exact absurd p0 (by decide)
  | cons a r =>
    rw [List.map_cons]
    show (if _ then _ else _) = _
    have h1 : a.length = q := hq a List.mem_cons_self
    have h2 : (r.map List.length).all (fun m => decide (m = a.length)) = true := List.all_eq_true.mpr fun m hm => by
      obtain ⟨b, hb, rfl⟩ := List.mem_map.mp hm
      exact decide_eq_true (by rw [h1]; exact hq b (List.mem_cons_of_mem _ hb))
    rw [h2, if_pos rfl, List.length_map, h1, ← hp]; rfl
theorem GoodC.sides (g : GoodC dl dw l L p q) : Jv.sidesD (sidesOf (Jv.linesD dw)) = true := by
  rw [g.lines]
  show decide _ = true
  have h := g.g.pq
  refine decide_eq_true ⟨⟨?_, ?_⟩, ⟨?_, ?_⟩, ?_⟩
  · have := g.g.p0; omega
  · have := g.g.p6; omega
  · have := g.g.q0; omega
  · have := g.g.q6; omega
  · exact_mod_cast h
theorem GoodC.allEnt (g : GoodC dl dw l L p q) : allEnt l dw = true := by
  obtain ⟨rows, e, pr⟩ := g.dw
  unfold K50.allEnt
  rw [e]
  refine List.all_eq_true.mpr fun x hx => ?_
  obtain ⟨r, hr, hx⟩ := List.mem_flatMap.mp hx
  obtain ⟨line, hline, es, e2, pr2⟩ := memL pr hr
  rw [e2] at hx
  obtain ⟨ns, hns, h⟩ := memL pr2 hx
  have h1 := g.g.len line hline ns hns
  unfold entD
  rw [show Jv.seqD x = .some (ns.map .int) from h]
  show (decide _ && _) = true
  rw [decide_eq_true (by rw [List.length_map]; exact h1), Bool.true_and, List.all_map, List.all_eq_true]
  intro n hn
  obtain ⟨a, b⟩ := g.g.ent line hline ns hns n hn
  show (decide (0 ≤ n) && decide (n ≤ 1000000)) = true
  rw [decide_eq_true a, decide_eq_true b]; rfl
theorem GoodC.whole (g : GoodC dl dw l L p q) : Jv.wholeD dl (.int 0) (.int 6) = true := by
  rw [g.dl]
  show (decide (0 ≤ l) && decide (l ≤ 6)) = true
  rw [decide_eq_true g.g.l0, decide_eq_true g.g.l6]; rfl
theorem GoodC.nofault (g : GoodC dl dw l L p q) : faultC dl dw = none := by
  have h1 := g.whole; have h2 := g.sides; have h3 := g.allEnt; have h5 := g.dl
  subst h5
  unfold faultC
  dsimp only
  rw [h1, h2, h3]; rfl
end
def sp_Costs_init (K : PySem.W.Frag) (C CB : Addr) : Sp := fun vs H Q E => ∃ a dx xl dl xw dw, vs = [.ref a, xl, xw] ∧ H a = some (.ins C dx []) ∧ Jv.Dv K H xl dl ∧ Jv.Dv K H xw dw ∧ Jv.few3 dw ∧
  ((∃ f, faultC dl dw = some f ∧ ∀ d H', Same H H' → H' d = some (.xd [("what", .str f)]) → E (.ref CB) (some d) H') ∨
   (∃ l L p q, GoodC dl dw l L p q ∧ ∀ H', (∀ b o, b ≠ a → H b = some o → H' b = some o) → CAt K H' C a l (linT L) p q → Q .non H'))
section
variable {P : Program} {w : World} {K : PySem.W.Frag} {mg : Str → Option Value} {base : Heap}
theorem ok_BadCostsu_initu (T : Tx) (O : Ok K mg T) : FnOk P w K mg base CX0 1 T.f_BadCostsu_initu T.d_BadCostsu_initu ["self", "what"] (sp_BadX_init T.C_BadCosts "what") := by
  refine O.F_BadCostsu_initu.ok sc_BadCostsu_initu (fun vs H Q E h => by obtain ⟨_, _, rfl, _⟩ := h; rfl) (fun cdv A outer s H vs Q E hr h => ?_)
  obtain ⟨a, v, rfl, ha, q⟩ := h
  refine ⟨_, (pss_one (ps_ost (pv 0) (pv 1))), ?_⟩
  exact ⟨_, rfl, _, rfl, a, T.C_BadCosts, rfl, O.x_BadCosts.o, O.n_BadCosts_what, .inl ⟨ha, fun d hd ne => q d hd ne⟩⟩
theorem ok_is_entry (T : Tx) (O : Ok K mg T) : FnOk P w K mg base CX0 2 T.f_is_entry T.d_is_entry ["thing", "ladder"] (sp_is_entry K) := by
  refine O.F_is_entry.ok sc_is_entry (fun vs H Q E h => by obtain ⟨_, _, _, rfl, _⟩ := h; rfl) (fun cdv A outer s H vs Q E hr h => ?_)
  obtain ⟨x, d, l, rfl, hx, fw, q⟩ := h
  refine ⟨_, (pss_one (ps_ret (pe_and (pe_call (ok_is_sequence T O) (hr.mono (by decide)) (by rfl) O.m_is_sequence O.F_is_sequence.kp O.b_is_sequence .nil pass0 (pa_cons (pv 0) pa_nil)) (pe_and (pe_cmpR op_eq (pe_callB (r := Jv.rLenK K) Jv.cr_len (by rfl) O.z_len (by decide +kernel) (pa_cons (pv 0) pa_nil)) (pe_op op_add (pv 1) pe_int) (nomark _)) (pe_one (pe_callB (r := rAll K) (cr_all rfl) (by rfl) O.z_all (by decide +kernel) (pa_cons (pe_lc (own := [("cost", 2)]) (by rfl) sc_is_entry.nd (Jv.piOr (show PI _ _ _ (iList K _) from pi_list (pv 0)) (show PI _ _ _ (iTup K _) from pi_tup (pv 0))) (blkOk_by (own := [("cost", 2)]) (N := ["thing", "ladder", "cost"]) (sc := defScope s_is_entry) (scope := ({ kind := .function, names := [(".0", .local), ("cost", .local), ("is_whole", .globalImplicit), ("COST_MOST", .globalImplicit)], isGenerator := false, isCoroutine := false } : Scope)) (by decide +kernel)) (fun _ _ _ _ _ => (pg_name (i := 2) sc_is_entry.nd rfl (Or.inl rfl))) (fun _ _ _ _ _ => pts_nil) (fun _ _ _ _ _ => (pe_call (ok_is_whole T O) (hr.mono (by decide)) (by rfl) O.m_is_whole O.F_is_whole.kp O.b_is_whole .nil pass0 (pa_cons (pv 2) (pa_cons pe_int (pa_cons (pe_glob (v := .int (1000000)) (by rfl) O.c_COST_MOST ⟨_, rfl⟩) pa_nil)))))) pa_nil))))))), ?_⟩
  walk_at "r"
  refine ⟨_, _, rfl, hx, fun H1 s1 => ?_⟩
  walk_at "r"
  cases e : Jv.seqD d with
  | none =>
    have e2 : entD l d = false := by unfold entD; rw [e]
    rw [e2] at q
    walk_at "r"; exact q _ s1
  | some ds =>
    have fw1 := fw ds e
    obtain ⟨xs, sq0, al⟩ := hx.sk e
    have sq := sq0.same s1
    have al1 := al.same s1
    have ll := al.len
    have e2 : entD l d = (decide ((ds.length : Int) = l + 1) && ds.all fun e => Jv.wholeD e (.int 0) (.int 1000000)) := by unfold entD; rw [e]
    rw [e2] at q
    walk_at "r"
    refine sq.len ?_
    walk_at "r"
    refine Jv.r_decI (fun h0 => ?_) (fun h0 => ?_)
    · rw [decide_eq_true (p := (ds.length : Int) = l + 1) (by omega), Bool.true_and] at q
      walk_at "r"
      refine Jv.lcS2 (K := K) (N := []) (j := 2) (i := 0) rfl sq .nil (ds.map fun e => .bool (Jv.wholeD e (.int 0) (.int 1000000))) (by rw [List.length_map]; omega) (by omega) (fun i v e' D H2 hi hv he s2 hN hD P hP => ?_) (fun D ys H2 s2 hD eD dv _ => ?_)
      · walk_at "r"
        obtain ⟨e0, h0e, hv2⟩ := al1.at hv
        rw [List.getElem?_map, h0e] at he
        obtain rfl := Option.some.inj he
        refine ⟨_, _, _, _, rfl, hv2.same s2, .inr ⟨_, rfl⟩, .inr ⟨_, rfl⟩, ?_⟩
        rw [hv2.whole]
        exact hP _ _ (Same.refl _) (.bl _)
      · walk_at "r"
        rw [Jv.hide_nil, show (ds.map fun e => PyData.bool (Jv.wholeD e (.int 0) (.int 1000000))) = (ds.map fun e => Jv.wholeD e (.int 0) (.int 1000000)).map PyData.bool by rw [List.map_map]; rfl] at dv
        rw [Jv.dv_bools dv] at eD
        refine ⟨D, _, rfl, Jv.sqL_at eD, ?_⟩
        rw [List.all_map]
        exact q _ (s1.trans s2)
    · rw [decide_eq_false (p := (ds.length : Int) = l + 1) (by omega), Bool.false_and] at q
      walk_at "r"
      exact q _ s1
theorem ok_Costsu_initu (T : Tx) (O : Ok K mg T) : FnOk P w K mg base (L2.CX P w) 3 T.f_Costsu_initu T.d_Costsu_initu ["self", "ladder", "lines"] (sp_Costs_init K T.C_Costs T.C_BadCosts) := by
  refine O.F_Costsu_initu.okX sc_Costsu_initu (fun vs H Q E h => by obtain ⟨_, _, _, _, _, _, rfl, _⟩ := h; rfl) (fun cdv A outer s H vs Q E hr h => ?_)
  obtain ⟨a, dx, xl, dl, xw, dw, rfl, ha, hl, hw, fw, q⟩ := h
  refine ⟨_, (pss_cons (ps_if (pt_not (pt_val (pe_call (ok_is_whole T O) (hr.mono (by decide)) (by rfl) O.m_is_whole O.F_is_whole.kp O.b_is_whole .nil pass0 (pa_cons (pv 1) (pa_cons pe_int (pa_cons (pe_glob (v := .int (6)) (by rfl) O.c_LADDER_MOST ⟨_, rfl⟩) pa_nil)))))) (pss_one (ps_raise rfl (takes_of rfl rfl rfl rfl) (pmk_oex O.x_BadCosts.o O.x_BadCosts.n O.x_BadCosts.y (ok_BadCostsu_initu T O) (hr.mono (by decide)) O.b_BadCostsu_initu .nil pass0 (by rfl) O.m_BadCosts (pa_cons pe_str pa_nil)))) pss_nil)
  (pss_cons (ps_set (i := 3) sc_Costsu_initu.nd rfl (Or.inl rfl) (pe_call (ok_sides_of_lines T O) (hr.mono (by decide)) (by rfl) O.m_sides_of_lines O.F_sides_of_lines.kp O.b_sides_of_lines .nil pass0 (pa_cons (pv 2) pa_nil)))
  (pss_cons (ps_if (pt_not (pt_val (pe_call (ok_are_sides T O) (hr.mono (by decide)) (by rfl) O.m_are_sides O.F_are_sides.kp O.b_are_sides .nil pass0 (pa_cons (pv 3) pa_nil)))) (pss_one (ps_raise rfl (takes_of rfl rfl rfl rfl) (pmk_oex O.x_BadCosts.o O.x_BadCosts.n O.x_BadCosts.y (ok_BadCostsu_initu T O) (hr.mono (by decide)) O.b_BadCostsu_initu .nil pass0 (by rfl) O.m_BadCosts (pa_cons pe_str pa_nil)))) pss_nil)
  (pss_cons (ps_if (pt_not (pt_val (pe_callB (r := rAll K) (cr_all rfl) (by rfl) O.z_all (by decide +kernel) (pa_cons (pe_lc2 (own := [("line", 4), ("entry", 5)]) (vs1 := [5]) (by rfl) sc_Costsu_initu.nd (Jv.piOr (show PI _ _ _ (iList K _) from pi_list (pv 2)) (show PI _ _ _ (iTup K _) from pi_tup (pv 2))) (blkOk_by (own := [("line", 4), ("entry", 5)]) (N := ["self", "ladder", "lines", "sides", "line", "entry"]) (sc := defScope s_Costsu_initu) (by decide +kernel)) (by decide) (fun _ _ _ _ _ => (pg_name (i := 4) sc_Costsu_initu.nd rfl (Or.inl rfl))) (fun _ _ _ _ _ => pts_nil) (fun _ _ _ _ _ => (Jv.piOr (show PI _ _ _ (iList K _) from pi_list (pv 4)) (show PI _ _ _ (iTup K _) from pi_tup (pv 4)))) (fun _ _ _ _ _ => (pg_name (i := 5) sc_Costsu_initu.nd rfl (Or.inl rfl))) (fun _ _ _ _ _ => pts_nil) (fun _ _ _ _ _ => (pe_call (ok_is_entry T O) (hr.mono (by decide)) (by rfl) O.m_is_entry O.F_is_entry.kp O.b_is_entry .nil pass0 (pa_cons (pv 5) (pa_cons (pv 1) pa_nil))))) pa_nil)))) (pss_one (ps_raise rfl (takes_of rfl rfl rfl rfl) (pmk_oex O.x_BadCosts.o O.x_BadCosts.n O.x_BadCosts.y (ok_BadCostsu_initu T O) (hr.mono (by decide)) O.b_BadCostsu_initu .nil pass0 (by rfl) O.m_BadCosts (pa_cons pe_str pa_nil)))) pss_nil)
  (pss_cons (ps_fld (pv 0) (pv 1) rfl)
  (pss_cons (ps_fld (pv 0) (pe_callTy (r := Jv.rTupOf K) call_tuple_of (by rfl) O.z_tuple (by decide +kernel) (pa_cons (pe_lc (own := [("line", 4)]) (by rfl) sc_Costsu_initu.nd (Jv.piOr (show PI _ _ _ (iList K _) from pi_list (pv 2)) (show PI _ _ _ (iTup K _) from pi_tup (pv 2))) (blkOk_by (own := [("line", 4)]) (N := ["self", "ladder", "lines", "sides", "line", "entry"]) (sc := defScope s_Costsu_initu) (scope := ({ kind := .function, names := [(".0", .local), ("line", .local), ("tuple", .globalImplicit)], isGenerator := false, isCoroutine := false } : Scope)) (by decide +kernel)) (fun _ _ _ _ _ => (pg_name (i := 4) sc_Costsu_initu.nd rfl (Or.inl rfl))) (fun _ _ _ _ _ => pts_nil) (fun _ _ _ _ _ => (pe_callTy (r := Jv.rTupOf K) call_tuple_of (by rfl) O.z_tuple (by decide +kernel) (pa_cons (pe_lc (own := [("entry", 5)]) (by rfl) sc_Costsu_initu.nd (Jv.piOr (show PI _ _ _ (iList K _) from pi_list (pv 4)) (show PI _ _ _ (iTup K _) from pi_tup (pv 4))) (blkOk_by (own := [("entry", 5)]) (N := ["self", "ladder", "lines", "sides", "line", "entry"]) (sc := ({ kind := .function, names := [(".0", .local), ("line", .local), ("tuple", .globalImplicit)], isGenerator := false, isCoroutine := false } : Scope)) (scope := ({ kind := .function, names := [(".0", .local), ("entry", .local), ("tuple", .globalImplicit)], isGenerator := false, isCoroutine := false } : Scope)) (by decide +kernel)) (fun _ _ _ _ _ => (pg_name (i := 5) sc_Costsu_initu.nd rfl (Or.inl rfl))) (fun _ _ _ _ _ => pts_nil) (fun _ _ _ _ _ => (pe_callTy (r := Jv.rTupOf K) call_tuple_of (by rfl) O.z_tuple (by decide +kernel) (pa_cons (pv 5) pa_nil)))) pa_nil)))) pa_nil)) rfl)
  (pss_one (ps_fld (pv 0) (pv 3) rfl)))))))), ?_⟩
  walk_at "r"
  have ea : ∀ (f : Str) (Hx : Hp), Same H Hx → faultC dl dw = some f → ∀ d H', Same Hx H' → H' d = some (.xd [("what", .str f)]) → E (.ref T.C_BadCosts) (some d) H' := fun f Hx sx hf d H' s' hd => by
    rcases q with ⟨f2, hf2, q⟩ | ⟨l, lls, p, q0, g, _⟩
    · rw [hf] at hf2; cases hf2
      exact q d H' (sx.trans s') hd
    · rw [g.nofault] at hf; cases hf
  have rz : ∀ (f : Str) (Hx : Hp) (σ : L2.St), Same H Hx → faultC dl dw = some f → tMkO T.C_BadCosts (sp_BadX_init T.C_BadCosts "what") [] (tCons (tC (.str f)) tNil) σ Hx (fun cls d H' => E cls d H') := fun f Hx σ sx hf =>
    ⟨Nat.le_of_ble_eq_true rfl, fun a ha => ⟨a, _, rfl, upd_same, fun d hd ne => ⟨rfl, d, _, upd_same, by rw [upd_ne ne]; exact upd_same, by rw [upd_ne ne] at hd; exact hd, by
      rw [upd_ne ne] at hd
      exact ea _ Hx sx hf d _ (raise_same ha hd) upd_same⟩⟩⟩
  refine ⟨_, _, _, _, rfl, hl, .inr ⟨_, rfl⟩, .inr ⟨_, rfl⟩, ?_⟩
  rw [hl.whole]
  walk_at "r"
  cases ew : Jv.wholeD dl (.int 0) (.int 6) with
  | false =>
    have ef : faultC dl dw = some ("ladder" : Str) := by
      unfold faultC
      cases dl with
      | int l => dsimp only; rw [ew, if_pos rfl]
      | _ => rfl
    walk_at "r"
    exact rz _ _ _ (Same.refl _) ef
  | true =>
  obtain ⟨l, rfl, l0, l6⟩ := Jv.wholeD_int ew
  have fG : ∀ x, faultC (.int l) dw = some x ↔ (if Jv.sidesD (sidesOf (Jv.linesD dw)) = false then some ("sides" : Str) else if allEnt l dw = false then some ("cost" : Str) else none) = some x := fun x => by
    unfold faultC
    dsimp only
    rw [ew, if_neg (by decide)]
  cases hl
  walk_at "r"
  have fw2 : Jv.few2 dw := fun ds e => ⟨(fw ds e).1, fun x hx es he => ((fw ds e).2 x hx es he).1⟩
  refine ⟨_, _, rfl, hw, fw2, fun en H1 s1 => ?_, fun p0 q0 en t H1 s1 ht => ?_⟩
  · walk_at "r"
    refine ⟨_, _, rfl, .non, fun H2 s2 => ?_⟩
    walk_at "r"
    exact rz _ _ _ (s1.trans s2) ((fG _).mpr (by rw [en]; rfl))
  · walk_at "r"
    refine ⟨_, _, rfl, .tup (Jv.sqT_at ht) (.cons (.int _) (.cons (.int _) .nil)), fun H2 s2 => ?_⟩
    have s12 := s1.trans s2
    have ht2 := s2 _ _ ht
    walk_at "r"
    have hso : sidesOf (Jv.linesD dw) = .tuple [.int p0, .int q0] := by rw [en]; rfl
    cases es : Jv.sidesD (.tuple [.int p0, .int q0]) with
    | false =>
      walk_at "r"
      exact rz _ _ _ s12 ((fG _).mpr (by rw [hso, es]; rfl))
    | true =>
    walk_at "r"
    have hrows : ∃ rows, Jv.seqD dw = some rows ∧ rows.all (fun e => (Jv.seqD e).isSome) = true := by
      unfold Jv.linesD at en
      cases er : Jv.seqD dw with
      | none => rw [er] at en; cases en
      | some rows =>
        refine ⟨rows, rfl, ?_⟩
        rw [er] at en; dsimp only at en
        cases hb : rows.all (fun e => (Jv.seqD e).isSome) with
        | true => rfl
        | false => rw [hb, if_neg Bool.false_ne_true] at en; cases en
    obtain ⟨rows, er, hall⟩ := hrows
    obtain ⟨xs, skw, alw⟩ := hw.sk er
    obtain ⟨fr1, fr2⟩ := fw rows er
    refine Jv.lc2D (K := K) (N := []) (i := 2) (a := 4) (b := 5) rfl (skw.same s12) (alw.same s12) .nil (fun e => .bool (entD l e)) (fun e he => ?_) fr1 (fun _ => rfl) (fun _ _ => rfl) (fun _ => rfl) (fun v u d D H3 du hd3 s3 hN hD PP hP => ?_) (fun D ys H3 s3 hD eD dv => ?_)
    · obtain ⟨z, hz⟩ := Option.isSome_iff_exists.mp (List.all_eq_true.mp hall e he)
      exact ⟨z, hz, (fr2 e he z hz).1⟩
    · obtain ⟨e, he, z, hz, hd3⟩ := hd3
      walk_at "r"
      exact ⟨_, _, _, rfl, du, (fr2 e he z hz).2 d hd3, fun H4 s4 => hP _ _ s4 (.bl _)⟩
    · walk_at "r"
      rw [Jv.hide_nil] at dv
      have efl : rows.flatMap (Jv.rowG fun e => .bool (entD l e)) = ((rows.flatMap fun r => (Jv.seqD r).getD []).map (entD l)).map PyData.bool := by
        rw [List.map_map, List.map_flatMap]; rfl
      rw [efl] at dv
      rw [Jv.dv_bools dv] at eD
      refine ⟨D, _, rfl, Jv.sqL_at eD, ?_⟩
      have eae : ((rows.flatMap fun r => (Jv.seqD r).getD []).map (entD l)).all id = allEnt l dw := by
        rw [List.all_map]; unfold allEnt; rw [er]; rfl
      rw [eae]
      walk_at "r"
      have s13 := s12.trans s3
      cases eE : allEnt l dw with
      | false =>
        walk_at "r"
        exact rz _ _ _ s13 ((fG _).mpr (by rw [hso, es, eE]; rfl))
      | true =>
      walk_at "r"
      rcases q with ⟨f, hf, _⟩ | ⟨l', L, p, q', g, qk⟩
      · have := (fG _).mp hf
        rw [hso, es, eE] at this
        cases this
      have el : l = l' := PyData.int.inj g.dl
      subst el
      have epq := g.lines
      rw [en] at epq
      cases epq
      have ha4 := s13 _ _ ha
      refine Jv.r_sfld ?_
      walk_at "r"
      refine ⟨a, _, dx, [], rfl, ha4, O.o_Costs, O.n_Costs_ladder, by decide, ?_⟩
      walk_at "r"
      have hw5 := (hw.same s13).ins (o := .ins T.C_Costs dx (putF "ladder" (.int l) [])) ha4
      have ht5 : upd H3 a (.ins T.C_Costs dx (putF "ladder" (.int l) [])) t = some (.tup [.int p0, .int q0]) := by
        have h4 := s3 _ _ ht2
        exact Jv.kpO h4 fun e => by rw [e, ha4] at h4; cases h4
      have old5 : ∀ b o, b ≠ a → H b = some o → upd H3 a (.ins T.C_Costs dx (putF "ladder" (.int l) [])) b = some o := fun b o nb hb => Jv.kpO (s13 _ _ hb) nb
      have ha5 : upd H3 a (.ins T.C_Costs dx (putF "ladder" (.int l) [])) a = some (.ins T.C_Costs dx [("ladder", .int l)]) := upd_same
      generalize upd H3 a (.ins T.C_Costs dx (putF "ladder" (.int l) [])) = H5 at hw5 ht5 old5 ha5 ⊢
      obtain ⟨ws, skw5, alw5⟩ := hw5.sk er
      obtain ⟨rows', er', prw⟩ := g.dw
      rw [er] at er'
      cases er'
      refine Jv.r_sfld ?_
      walk_at "r"
      have lws := alw5.len
      have lrw := Paired.length prw
      refine Jv.lcS2 (K := K) (N := []) (j := 4) (i := 2) rfl skw5 .nil (L.map rowT) (by rw [List.length_map]; omega) (by omega) (fun i v e D1 H6 hi hv he s6 hN1 hD1 PP hP => ?_) (fun D1 ys H6 s6 hD1 eD1 dv1 _ => ?_)
      · obtain ⟨r, hr, dr⟩ := alw5.at hv
        obtain ⟨line, hline, hLR⟩ := pairAt prw hr
        rw [List.getElem?_map, hline] at he
        obtain rfl := Option.some.inj he
        obtain ⟨es', ers, prl⟩ := hLR
        have dr1 : Jv.Dv K (Jv.hide [D1] H6) v r := by
          have := dr
          rw [← Jv.hide_nil (H := H5)] at this
          exact this.same (Jv.hide_more s6 hD1)
        obtain ⟨us, sku1, alu1⟩ := dr1.sk ers
        have sku := sku1.same Jv.hide_le
        have hrm := List.mem_of_getElem? hr
        have fq := (fr2 r hrm es' ers).1
        have lus := alu1.len
        have lpl := Paired.length prl
        walk_at "r"
        refine Jv.lcS2 (K := K) (N := [D1]) (j := 5) (i := 4) rfl sku hN1 (line.map fun ns => .tuple (ns.map .int)) (by rw [List.length_map]; omega) (by omega) (fun i2 u e2 D2 H7 hi2 hu he2 s7 hN2 hD2 PP2 hP2 => ?_) (fun D2 ys2 H7 s7 hD2 eD2 dv2 _ => ?_)
        · obtain ⟨e0, he0, du0⟩ := alu1.at hu
          obtain ⟨ns, hns, hER⟩ := pairAt prl he0
          rw [List.getElem?_map, hns] at he2
          obtain rfl := Option.some.inj he2
          have du1 := du0.same (Jv.hide_more s7 hD2)
          walk_at "r"
          cases du1 with
          | lst h q =>
            cases hER
            exact Jv.r_tupOfL (Jv.sqL_at (Jv.hide_some h).2) fun t2 ht2 => hP2 _ _ (Jv.same_new ht2) (Jv.dv_new ht2 hN2 q)
          | tup h q =>
            cases hER
            exact Jv.r_tupOfT (Jv.Same.sqT Jv.hide_le h) (hP2 _ _ (Same.refl _) (.tup h q))
          | _ => cases hER
        · walk_at "r"
          refine ⟨D2, _, rfl, .inl ⟨Jv.sqL_at eD2, fun t2 ht2 => ?_⟩⟩
          exact hP _ _ (s7.trans (Jv.same_new ht2)) (Jv.dv_new ht2 (hN1.same s7) dv2)
      · walk_at "r"
        refine ⟨D1, _, rfl, .inl ⟨Jv.sqL_at eD1, fun t2 ht2 => ?_⟩⟩
        rw [Jv.hide_nil] at dv1
        have hW : Jv.Dv K (upd H6 t2 (.tup ys)) (.ref t2) (linT L) := .tup (Jv.sqT_at upd_same) (dv1.same (Jv.same_new ht2))
        have s6n := s6.trans (Jv.same_new (u := .tup ys) ht2)
        have ha7 := s6n _ _ ha5
        have ht7 := s6n _ _ ht5
        have old7 : ∀ b o, b ≠ a → H b = some o → upd H6 t2 (.tup ys) b = some o := fun b o nb hb => s6n _ _ (old5 b o nb hb)
        generalize upd H6 t2 (.tup ys) = H7 at hW ha7 ht7 old7 ⊢
        walk_at "r"
        refine ⟨a, _, dx, _, rfl, ha7, O.o_Costs, O.n_Costs_lines, Nat.le_of_ble_eq_true rfl, ?_⟩
        walk_at "r"
        have hW8 := hW.ins (o := .ins T.C_Costs dx (putF "lines" (.ref t2) [("ladder", .int l)])) ha7
        have ht8 : upd H7 a (.ins T.C_Costs dx (putF "lines" (.ref t2) [("ladder", .int l)])) t = some (.tup [.int p0, .int q0]) := Jv.kpO ht7 fun e => by rw [e, ha7] at ht7; cases ht7
        have old8 : ∀ b o, b ≠ a → H b = some o → upd H7 a (.ins T.C_Costs dx (putF "lines" (.ref t2) [("ladder", .int l)])) b = some o := fun b o nb hb => Jv.kpO (old7 b o nb hb) nb
        have ha8 : upd H7 a (.ins T.C_Costs dx (putF "lines" (.ref t2) [("ladder", .int l)])) a = some (.ins T.C_Costs dx [("ladder", .int l), ("lines", .ref t2)]) := upd_same
        generalize upd H7 a (.ins T.C_Costs dx (putF "lines" (.ref t2) [("ladder", .int l)])) = H8 at hW8 ht8 old8 ha8 ⊢
        show sFld K (tVar 0) (tVar 3) "sides" _ _ _
        refine Jv.r_sfld ?_
        walk_at "r"
        refine ⟨a, _, dx, _, rfl, ha8, O.o_Costs, O.n_Costs_sides, Nat.le_of_ble_eq_true rfl, ?_⟩
        refine qk _ (fun b o nb hb => Jv.kpO (old8 b o nb hb) nb) ⟨dx, _, _, upd_same, hW8.ins ha8, .tup (Jv.sqT_at (Jv.kpO ht8 fun e => by rw [e, ha8] at ht8; cases ht8)) (.cons (.int _) (.cons (.int _) .nil))⟩
end
end K50

namespace K50
open PySem PySem.Spec PyProof.Rows L2
/-! ### lots, orders, couples, sides: of data -/
def few60 (d : PyData) : Prop := ∀ ds, Jv.seqD d = some ds → ds.length ≤ 60
def intsD : List PyData → Option (List Int)
  | [] => some []
  | .int i :: r => (intsD r).map (i :: ·)
  | _ :: _ => none
theorem intsD_map : ∀ ns : List Int, intsD (ns.map .int) = some ns
  | [] => rfl
  | a :: r => by simp [intsD, intsD_map r]
theorem intsD_of : ∀ {ds : List PyData} {ns : List Int}, intsD ds = some ns → ds = ns.map .int
  | [], ns, h => by cases h; rfl
  | d :: r, ns, h => by
    cases d with
    | int i =>
      cases e : intsD r with
      | none => simp [intsD, e] at h
      | some m => simp [intsD, e] at h; subst h; rw [intsD_of e]; rfl
    | _ => cases h
def kindsD (k : Int) (d : PyData) : Bool := match Jv.seqD d with
  | some ds => ds.all fun e => Jv.wholeD e (.int 0) (.int (k - 1))
  | none => false
def lotD (k : Int) (d : PyData) : Bool := match Jv.seqD d with
  | some ds => match intsD ds with
    | some ns => decide (Jv.lotP k ns)
    | none => false
  | none => false
def orderD (k : Int) (d : PyData) : Bool := match Jv.seqD d with
  | some ds => match intsD ds with
    | some ns => decide (Jv.orderP k ns)
    | none => false
  | none => false
def coupleD (p q : Int) (d : PyData) : Bool := match Jv.seqD d with
  | some [a, b] => Jv.wholeD a (.int 0) (.int (p - 1)) && Jv.wholeD b (.int 0) (.int (q - 1))
  | _ => false
theorem kinds_true {k : Int} {d : PyData} (h : kindsD k d = true) : ∃ ns, Jv.seqD d = some (ns.map .int) ∧ Jv.inK k ns := by
  unfold kindsD at h
  cases e : Jv.seqD d with
  | none => rw [e] at h; cases h
  | some ds =>
    rw [e] at h
    have key : ∀ ds : List PyData, (ds.all fun e => Jv.wholeD e (.int 0) (.int (k - 1))) = true → ∃ ns, ds = ns.map .int ∧ Jv.inK k ns := by
      intro ds
      induction ds with
      | nil => intro _; exact ⟨[], rfl, fun _ h => by cases h⟩
      | cons a r ih =>
        intro h
        rw [List.all_cons, Bool.and_eq_true] at h
        obtain ⟨i, rfl, h1, h2⟩ := Jv.wholeD_int h.1
        obtain ⟨ns, rfl, h3⟩ := ih h.2
        refine ⟨i :: ns, rfl, fun n hn => ?_⟩
        rcases List.mem_cons.mp hn with rfl | hn
        · exact ⟨h1, h2⟩
        · exact h3 n hn
    obtain ⟨ns, rfl, h3⟩ := key ds h
    exact ⟨ns, rfl, h3⟩
theorem kinds_of {k : Int} {d : PyData} {ns : List Int} (e : Jv.seqD d = some (ns.map .int)) (h : Jv.inK k ns) : kindsD k d = true := by
  unfold kindsD; rw [e]
  show ((ns.map PyData.int).all _) = true
  rw [List.all_map, List.all_eq_true]
  intro n hn
  obtain ⟨a, b⟩ := h n hn
  show (decide (0 ≤ n) && decide (n ≤ k - 1)) = true
  rw [decide_eq_true a, decide_eq_true b]; rfl
theorem lotD_of {k : Int} {d : PyData} {ns : List Int} (e : Jv.seqD d = some (ns.map .int)) : lotD k d = decide (Jv.lotP k ns) := by
  unfold lotD; rw [e]; dsimp only; rw [intsD_map]
theorem orderD_of {k : Int} {d : PyData} {ns : List Int} (e : Jv.seqD d = some (ns.map .int)) : orderD k d = decide (Jv.orderP k ns) := by
  unfold orderD; rw [e]; dsimp only; rw [intsD_map]
theorem lotD_false {k : Int} {d : PyData} (h : kindsD k d = false) : lotD k d = false := by
  cases e : Jv.seqD d with
  | none => unfold lotD; rw [e]
  | some ds =>
    cases e2 : intsD ds with
    | none => unfold lotD; rw [e]; dsimp only; rw [e2]
    | some ns =>
      obtain rfl := intsD_of e2
      rw [lotD_of e, decide_eq_false]
      rintro ⟨h1, _⟩
      rw [kinds_of e h1] at h; cases h
theorem orderD_false {k : Int} {d : PyData} (h : kindsD k d = false) : orderD k d = false := by
  cases e : Jv.seqD d with
  | none => unfold orderD; rw [e]
  | some ds =>
    cases e2 : intsD ds with
    | none => unfold orderD; rw [e]; dsimp only; rw [e2]
    | some ns =>
      obtain rfl := intsD_of e2
      rw [orderD_of e, decide_eq_false]
      rintro ⟨h1, _⟩
      rw [kinds_of e h1] at h; cases h
def sp_are_kinds (K : PySem.W.Frag) : Sp := fun vs H Q _ => ∃ x d k, vs = [x, .int k] ∧ Jv.Dv K H x d ∧ few60 d ∧ ∀ H', Same H H' → Q (.bl (kindsD k d)) H'
def sp_is_lot (K : PySem.W.Frag) : Sp := fun vs H Q _ => ∃ x d k, vs = [x, .int k] ∧ Jv.Dv K H x d ∧ few60 d ∧ ∀ H', Same H H' → Q (.bl (lotD k d)) H'
def sp_is_order (K : PySem.W.Frag) : Sp := fun vs H Q _ => ∃ x d k, vs = [x, .int k] ∧ Jv.Dv K H x d ∧ few60 d ∧ (0 ≤ k ∧ k ≤ 60) ∧ ∀ H', Same H H' → Q (.bl (orderD k d)) H'
def sp_check_lot (K : PySem.W.Frag) (C : Addr) : Sp := fun vs H Q E => ∃ x d k v, vs = [x, .int k, v] ∧ Jv.Dv K H x d ∧ few60 d ∧
  ((∃ ns, Jv.seqD d = some (ns.map .int) ∧ Jv.lotP k ns ∧ ∀ t H', Same H H' → SqT K H' t (ns.map V.int) → Q (.ref t) H') ∨ (lotD k d = false ∧ ∀ e H', Same H H' → H' e = some (.xd [("side", v)]) → E (.ref C) (some e) H'))
def sp_check_order (K : PySem.W.Frag) (C : Addr) : Sp := fun vs H Q E => ∃ x d k v, vs = [x, .int k, v] ∧ Jv.Dv K H x d ∧ few60 d ∧ (0 ≤ k ∧ k ≤ 60) ∧
  ((∃ ns, Jv.seqD d = some (ns.map .int) ∧ Jv.orderP k ns ∧ ∀ t H', Same H H' → SqT K H' t (ns.map V.int) → Q (.ref t) H') ∨ (orderD k d = false ∧ ∀ e H', Same H H' → H' e = some (.xd [("side", v)]) → E (.ref C) (some e) H'))
def sp_check_side (K : PySem.W.Frag) (C : Addr) : Sp := fun vs H Q E => ∃ x d, vs = [x] ∧ Jv.Dv K H x d ∧ (Jv.wholeD d (.int 0) (.int 1) = true → Q x H) ∧ (Jv.wholeD d (.int 0) (.int 1) = false → E (.ref C) none H)
def sp_check_couple (K : PySem.W.Frag) (C : Addr) : Sp := fun vs H Q E => ∃ sd p q x d, vs = [sd, x] ∧ Jv.Sk K H sd [.int p, .int q] ∧ Jv.Dv K H x d ∧
  ((∃ e f, Jv.seqD d = some [.int e, .int f] ∧ (0 ≤ e ∧ e < p) ∧ (0 ≤ f ∧ f < q) ∧ ∀ t H', Same H H' → SqT K H' t [.int e, .int f] → Q (.ref t) H') ∨ (coupleD p q d = false ∧ ∀ H', Same H H' → E (.ref C) none H'))
def sp_raised_end : Sp := fun vs H Q _ => ∃ e b : Int, vs = [.int e, .int b] ∧ Q (.int (if e < 0 then e - b else e + b)) H
section
variable {P : Program} {w : World} {K : PySem.W.Frag} {mg : Str → Option Value} {base : Heap}
theorem ok_are_kinds (T : Tx) (O : Ok K mg T) : FnOk P w K mg base CX0 2 T.f_are_kinds T.d_are_kinds ["thing", "kinds"] (sp_are_kinds K) := by
  refine O.F_are_kinds.ok sc_are_kinds (fun vs H Q E h => by obtain ⟨_, _, _, rfl, _⟩ := h; rfl) (fun cdv A outer s H vs Q E hr h => ?_)
  obtain ⟨x, d, k, rfl, hx, fw, q⟩ := h
  refine ⟨_, (pss_one (ps_ret (pe_and (pe_call (ok_is_sequence T O) (hr.mono (by decide)) (by rfl) O.m_is_sequence O.F_is_sequence.kp O.b_is_sequence .nil pass0 (pa_cons (pv 0) pa_nil)) (pe_one (pe_callB (r := rAll K) (cr_all rfl) (by rfl) O.z_all (by decide +kernel) (pa_cons (pe_lc (own := [("kind", 2)]) (by rfl) sc_are_kinds.nd (Jv.piOr (show PI _ _ _ (iList K _) from pi_list (pv 0)) (show PI _ _ _ (iTup K _) from pi_tup (pv 0))) (blkOk_by (own := [("kind", 2)]) (N := ["thing", "kinds", "kind"]) (sc := defScope s_are_kinds) (scope := ({ kind := .function, names := [(".0", .local), ("kind", .local), ("is_whole", .globalImplicit), ("kinds", .free)], isGenerator := false, isCoroutine := false } : Scope)) (by decide +kernel)) (fun _ _ _ _ _ => (pg_name (i := 2) sc_are_kinds.nd rfl (Or.inl rfl))) (fun _ _ _ _ _ => pts_nil) (fun _ _ _ _ _ => (pe_call (ok_is_whole T O) (hr.mono (by decide)) (by rfl) O.m_is_whole O.F_is_whole.kp O.b_is_whole .nil pass0 (pa_cons (pv 2) (pa_cons pe_int (pa_cons (pe_op op_sub (pv 1) pe_int) pa_nil)))))) pa_nil)))))), ?_⟩
  walk_at "r"
  refine ⟨_, _, rfl, hx, fun H1 s1 => ?_⟩
  walk_at "r"
  cases e : Jv.seqD d with
  | none =>
    have e2 : kindsD k d = false := by unfold kindsD; rw [e]
    rw [e2] at q
    walk_at "r"; exact q _ s1
  | some ds =>
    have e2 : kindsD k d = ds.all fun e => Jv.wholeD e (.int 0) (.int (k - 1)) := by unfold kindsD; rw [e]
    rw [e2] at q
    have f60 := fw ds e
    obtain ⟨xs, sq0, al⟩ := hx.sk e
    have sq := sq0.same s1
    have al1 := al.same s1
    have ll := al.len
    walk_at "r"
    refine Jv.lcS2 (K := K) (N := []) (j := 2) (i := 0) rfl sq .nil (ds.map fun e => .bool (Jv.wholeD e (.int 0) (.int (k - 1)))) (by rw [List.length_map]; omega) (by omega) (fun i v e' D H2 hi hv he s2 hN hD P hP => ?_) (fun D ys H2 s2 hD eD dv _ => ?_)
    · walk_at "r"
      obtain ⟨e0, h0e, hv2⟩ := al1.at hv
      rw [List.getElem?_map, h0e] at he
      obtain rfl := Option.some.inj he
      refine ⟨_, _, _, _, rfl, hv2.same s2, .inr ⟨_, rfl⟩, .inr ⟨_, rfl⟩, ?_⟩
      rw [hv2.whole]
      exact hP _ _ (Same.refl _) (.bl _)
    · walk_at "r"
      rw [Jv.hide_nil, show (ds.map fun e => PyData.bool (Jv.wholeD e (.int 0) (.int (k - 1)))) = (ds.map fun e => Jv.wholeD e (.int 0) (.int (k - 1))).map PyData.bool by rw [List.map_map]; rfl] at dv
      rw [Jv.dv_bools dv] at eD
      refine ⟨D, _, rfl, Jv.sqL_at eD, ?_⟩
      rw [List.all_map]
      exact q _ (s1.trans s2)
theorem ok_is_order (T : Tx) (O : Ok K mg T) : FnOk P w K mg base CX0 3 T.f_is_order T.d_is_order ["thing", "many"] (sp_is_order K) := by
  refine O.F_is_order.ok sc_is_order (fun vs H Q E h => by obtain ⟨_, _, _, rfl, _⟩ := h; rfl) (fun cdv A outer s H vs Q E hr h => ?_)
  obtain ⟨x, d, k, rfl, hx, fw, ⟨k0, k1⟩, q⟩ := h
  refine ⟨_, (pss_one (ps_ret (pe_and (pe_call (ok_are_kinds T O) (hr.mono (by decide)) (by rfl) O.m_are_kinds O.F_are_kinds.kp O.b_are_kinds .nil pass0 (pa_cons (pv 0) (pa_cons (pv 1) pa_nil))) (pe_one (pe_cmpR (r := rEqD K) (op_eqD hr.units) (pe_callB (r := Jv.rSortIT K) Jv.cr_sortIT (by rfl) O.z_sorted (by decide +kernel) (pa_cons (pv 0) pa_nil)) (pe_listRg rfl (by rfl) O.z_list (prg_1 (by rfl) O.z_range (pv 1))) (nomark _)))))), ?_⟩
  walk_at "r"
  refine ⟨_, _, _, rfl, hx, fw, fun H1 s1 => ?_⟩
  walk_at "r"
  cases ek : kindsD k d with
  | false =>
    rw [orderD_false ek] at q
    walk_at "r"; exact q _ s1
  | true =>
    obtain ⟨ns, e, hk⟩ := kinds_true ek
    obtain ⟨xs, sq0, al⟩ := hx.sk e
    obtain rfl := Jv.dv_intsV al
    obtain ⟨a, rfl, hq⟩ := sq0.same s1
    rw [orderD_of e] at q
    walk_at "r"
    refine ⟨a, ns, rfl, hq, fun ms r pm so hr => ?_⟩
    refine ⟨_, rfl, k, rfl, RgOk.of_le (by omega) (by omega) (by omega) (by omega), fun l hl => ?_⟩
    walk_at "r"
    rw [Jv.rgV0]
    refine ⟨_, _, Jv.dpL (by walk_at "sq"), Jv.dpL (by walk_at "sq"), Jv.shapedL _, Jv.shapedL _, ?_⟩
    rw [Jv.eqvL]
    have e3 : decide (Jv.orderP k ns) = decide (ms = (List.range k.toNat).map fun (i : Nat) => (i : Int)) := by
      have : Jv.orderP k ns ↔ ms = (List.range k.toNat).map fun (i : Nat) => (i : Int) :=
        ⟨fun h => Jv.sorted_perm so (Jv.range_sorted _) (pm.trans h.2), fun h => ⟨hk, by rw [← h]; exact pm.symm⟩⟩
      simp only [this]
    rw [e3] at q
    exact q _ ((s1.trans (Jv.same_new hr)).trans (Jv.same_new hl))
theorem ok_BadLotu_initu (T : Tx) (O : Ok K mg T) : FnOk P w K mg base CX0 1 T.f_BadLotu_initu T.d_BadLotu_initu ["self", "side"] (sp_BadX_init T.C_BadLot "side") := by
  refine O.F_BadLotu_initu.ok sc_BadLotu_initu (fun vs H Q E h => by obtain ⟨_, _, rfl, _⟩ := h; rfl) (fun cdv A outer s H vs Q E hr h => ?_)
  obtain ⟨a, v, rfl, ha, q⟩ := h
  refine ⟨_, (pss_one (ps_ost (pv 0) (pv 1))), ?_⟩
  exact ⟨_, rfl, _, rfl, a, T.C_BadLot, rfl, O.x_BadLot.o, O.n_BadLot_side, .inl ⟨ha, fun d hd ne => q d hd ne⟩⟩
theorem ok_check_side_order (T : Tx) (O : Ok K mg T) : FnOk P w K mg base (L2.CX P w) 4 T.f_check_side_order T.d_check_side_order ["order", "kinds", "side"] (sp_check_order K T.C_BadLot) := by
  refine O.F_check_side_order.okX sc_check_side_order (fun vs H Q E h => by obtain ⟨_, _, _, _, rfl, _⟩ := h; rfl) (fun cdv A outer s H vs Q E hr h => ?_)
  obtain ⟨x, d, k, v, rfl, hx, fw, kb, q⟩ := h
  refine ⟨_, (pss_cons (ps_if (pt_not (pt_val (pe_call (ok_is_order T O) (hr.mono (by decide)) (by rfl) O.m_is_order O.F_is_order.kp O.b_is_order .nil pass0 (pa_cons (pv 0) (pa_cons (pv 1) pa_nil))))) (pss_one (ps_raise rfl (takes_of rfl rfl rfl rfl) (pmk_oex O.x_BadLot.o O.x_BadLot.n O.x_BadLot.y (ok_BadLotu_initu T O) (hr.mono (by decide)) O.b_BadLotu_initu .nil pass0 (by rfl) O.m_BadLot (pa_cons (pv 2) pa_nil)))) pss_nil)
  (pss_one (ps_ret (pe_callTy (r := Jv.rTupOf K) call_tuple_of (by rfl) O.z_tuple (by decide +kernel) (pa_cons (pv 0) pa_nil))))), ?_⟩
  walk_at "r"
  refine ⟨_, _, _, rfl, hx, fw, kb, fun H1 s1 => ?_⟩
  walk_at "r"
  rcases q with ⟨ns, e, hp, q⟩ | ⟨e, q⟩
  · rw [orderD_of e, decide_eq_true hp]
    walk_at "r"
    obtain ⟨xs, sq0, al⟩ := hx.sk e
    obtain rfl := Jv.dv_intsV al
    exact (sq0.same s1).tup fun t H2 s2 ht => q t _ (s1.trans s2) ht
  · rw [e]
    walk_at "r"
    refine ⟨_, rfl, Nat.le_of_ble_eq_true rfl, fun a ha => ⟨a, v, rfl, upd_same, fun d hd ne => ⟨rfl, d, _, upd_same, by rw [upd_ne ne]; exact upd_same, by rw [upd_ne ne] at hd; exact hd, ?_⟩⟩⟩
    rw [upd_ne ne] at hd
    exact q d _ (s1.trans (raise_same ha hd)) upd_same
theorem ok_check_side (T : Tx) (O : Ok K mg T) : FnOk P w K mg base (L2.CX P w) 2 T.f_check_side T.d_check_side ["side"] (sp_check_side K T.C_BadSide) := by
  refine O.F_check_side.okX sc_check_side (fun vs H Q E h => by obtain ⟨_, _, rfl, _⟩ := h; rfl) (fun cdv A outer s H vs Q E hr h => ?_)
  obtain ⟨x, d, rfl, hx, q1, q2⟩ := h
  refine ⟨_, (pss_cons (ps_if (pt_not (pt_val (pe_call (ok_is_whole T O) (hr.mono (by decide)) (by rfl) O.m_is_whole O.F_is_whole.kp O.b_is_whole .nil pass0 (pa_cons (pv 0) (pa_cons (pe_glob (v := .int (0)) (by rfl) O.c_EAST ⟨_, rfl⟩) (pa_cons (pe_glob (v := .int (1)) (by rfl) O.c_WEST ⟨_, rfl⟩) pa_nil)))))) (pss_one (ps_raise rfl (takes_of rfl rfl rfl rfl) (Jv.pmk_own0 PySem.F.excBase_ValueError O.e_BadSide.x O.m_BadSide O.e_BadSide.k (O.e_BadSide.raises) (by rfl)))) pss_nil)
  (pss_one (ps_ret (pv 0)))), ?_⟩
  walk_at "r"
  refine ⟨_, _, _, _, rfl, hx, .inr ⟨_, rfl⟩, .inr ⟨_, rfl⟩, ?_⟩
  rw [hx.whole]
  walk_at "r"
  cases e : Jv.wholeD d (.int 0) (.int 1) with
  | true => walk_at "r"; exact q1 e
  | false => walk_at "r"; exact q2 e
end
end K50

namespace K50
open PySem PySem.Spec PyProof.Rows L2
/-! ### goals made of goals: what they are -/
def lineT (line : List (List Int)) : PyData := .tuple (line.map fun ns => .tuple (ns.map .int))
def wantT (L : List (List (List Int))) : PyData := .tuple (L.map lineT)
theorem want_eq {l : Int} {lls : List (List (List Int))} : wantD l lls = wantT (lls.map fun line => line.map (neatI l)) := by
  unfold wantD wantT
  rw [List.map_map]
  congr 1
  refine List.map_congr_left fun line _ => ?_
  show lineD l line = lineT (line.map (neatI l))
  unfold lineD lineT
  rw [List.map_map]; rfl
theorem mem_neat {l n : Int} {ns : List Int} : n ∈ neatI l ns ↔ (-l ≤ n ∧ n ≤ l) ∧ n ∈ ns := by
  unfold neatI
  rw [List.mem_filter, decide_eq_true_iff, List.mem_map]
  refine and_congr_left fun _ => ⟨?_, fun h => ⟨(n + l).toNat, by rw [List.mem_range]; omega, by omega⟩⟩
  rintro ⟨i, hi, rfl⟩
  rw [List.mem_range] at hi
  omega
theorem neat_sorted {l : Int} {ns : List Int} : (neatI l ns).Pairwise (· < ·) := by
  unfold neatI
  refine List.Pairwise.filter _ ?_
  rw [List.pairwise_map]
  exact List.pairwise_lt_range.imp fun h => by omega
theorem neat_len {l : Int} {ns : List Int} (h : l ≤ 7) : (neatI l ns).length ≤ 15 := by
  unfold neatI
  refine Nat.le_trans (List.length_filter_le _ _) ?_
  rw [List.length_map, List.length_range]; omega
theorem neat_of {l : Int} {ns : List Int} (h : ∀ n ∈ ns, -l ≤ n ∧ n ≤ l) (hs : ns.Pairwise (· < ·)) : neatI l ns = ns :=
  Jv.sorted_ext neat_sorted hs fun n => by rw [mem_neat]; exact ⟨fun m => m.2, fun m => ⟨h n m, m⟩⟩
/-- neat lines of a shape -/
structure Wd (l : Int) (L : List (List (List Int))) (p q : Nat) : Prop where
  l0 : 0 ≤ l
  l6 : l ≤ 6
  hp : L.length = p
  hq : ∀ line ∈ L, line.length = q
  p0 : 1 ≤ p
  p6 : p ≤ 6
  q0 : 1 ≤ q
  q6 : q ≤ 6
  pq : p * q ≤ 12
  ends : ∀ line ∈ L, ∀ ns ∈ line, ns ≠ [] ∧ neatI l ns = ns
theorem Wd.range {l : Int} {L : List (List (List Int))} {p q : Nat} (w : Wd l L p q) {line : List (List Int)} {ns : List Int} (h1 : line ∈ L) (h2 : ns ∈ line) : ns.length ≤ 60 ∧ ∀ n ∈ ns, -l ≤ n ∧ n ≤ l := by
  obtain ⟨_, e⟩ := w.ends line h1 ns h2
  refine ⟨?_, fun n hn => ?_⟩
  · rw [← e]; have := neat_len (l := l) (ns := ns) (by have := w.l6; omega); omega
  · rw [← e] at hn; exact (mem_neat.mp hn).1
theorem Wd.same {l : Int} {L : List (List (List Int))} {p q : Nat} (w : Wd l L p q) : (L.map fun line => line.map (neatI l)) = L := by
  have : ∀ line ∈ L, line.map (neatI l) = line := fun line h => by
    have : ∀ ns ∈ line, neatI l ns = ns := fun ns h2 => (w.ends line h ns h2).2
    rw [List.map_congr_left (g := id) this, List.map_id]
  rw [List.map_congr_left (g := id) this, List.map_id]
/-- the lines as lists or tuples -/
theorem pair_map {α β : Type} {f : β → α} {F : α → β → Prop} : ∀ {ys : List β}, (∀ y ∈ ys, F (f y) y) → Paired F (ys.map f) ys
  | [], _ => .nil
  | a :: r, h => .cons (h a List.mem_cons_self) (pair_map fun y m => h y (List.mem_cons_of_mem _ m))
theorem linesT {L : List (List (List Int))} : LinesR (wantT L) L := ⟨_, rfl, pair_map fun line _ => ⟨_, rfl, pair_map fun ns _ => rfl⟩⟩
def lineL (line : List (List Int)) : PyData := .list (line.map fun ns => .tuple (ns.map .int))
def wantL (L : List (List (List Int))) : PyData := .list (L.map lineL)
theorem linesL {L : List (List (List Int))} : LinesR (wantL L) L := ⟨_, rfl, pair_map fun line _ => ⟨_, rfl, pair_map fun ns _ => rfl⟩⟩
def wantLT (L : List (List (List Int))) : PyData := .list (L.map lineT)
theorem linesLT {L : List (List (List Int))} : LinesR (wantLT L) L := ⟨_, rfl, pair_map fun line _ => ⟨_, rfl, pair_map fun ns _ => rfl⟩⟩
def wantLL (L : List (List (List Int))) : PyData := .list (L.map fun line => .list (line.map fun ns => .list (ns.map .int)))
theorem linesLL {L : List (List (List Int))} : LinesR (wantLL L) L := ⟨_, rfl, pair_map fun line _ => ⟨_, rfl, pair_map fun ns _ => rfl⟩⟩
theorem Wd.good {l : Int} {L : List (List (List Int))} {p q : Nat} {dw dk : PyData} {k0 k1 : Bool} (w : Wd l L p q) (h : LinesR dw L) (hk : Jv.seqD dk = some [.bool k0, .bool k1]) : GoodG (.int l) dw dk l L k0 k1 p q :=
  ⟨rfl, w.l0, w.l6, h, w.hp, w.hq, w.p0, w.p6, w.q0, w.q6, w.pq, fun line h1 ns h2 => ⟨(w.ends line h1 ns h2).1, w.range h1 h2⟩, hk⟩
theorem few_lines {dw : PyData} {lls : List (List (List Int))} (h : LinesR dw lls) (h1 : lls.length ≤ 100) (h2 : ∀ line ∈ lls, line.length ≤ 100) (h3 : ∀ line ∈ lls, ∀ ns ∈ line, ns.length ≤ 100) : Jv.few3 dw := by
  obtain ⟨rows, e, pr⟩ := h
  intro ds e1
  rw [e] at e1; cases e1
  refine ⟨by rw [Paired.length pr]; exact h1, fun r hr => ?_⟩
  obtain ⟨line, hl, es, e2, pr2⟩ := memL pr hr
  intro ds e3
  rw [e2] at e3; cases e3
  refine ⟨by rw [Paired.length pr2]; exact h2 line hl, fun x hx => ?_⟩
  obtain ⟨ns, hn, e4⟩ := memL pr2 hx
  intro ds e5
  rw [show Jv.seqD x = some (ns.map .int) from e4] at e5; cases e5
  rw [List.length_map]; exact h3 line hl ns hn
theorem GoodG.few {dl dw dk : PyData} {l : Int} {lls : List (List (List Int))} {k0 k1 : Bool} {p q : Nat} (g : GoodG dl dw dk l lls k0 k1 p q) : Jv.few3 dw :=
  few_lines g.dw (by rw [g.hp]; have := g.p6; omega) (fun line h => by rw [g.hq line h]; have := g.q6; omega) fun line h ns h2 => by have := (g.ends line h ns h2).2.1; omega
section
variable {K : PySem.W.Frag} {H H' H1 : Hp} {C CB a : Addr} {l : Int} {W : PyData} {k0 k1 : Bool} {p q : Int}
theorem GAt.same (h : GAt K H C a l W k0 k1 p q) (s : Same H H') : GAt K H' C a l W k0 k1 p q := by
  obtain ⟨dx, w, k, t, h1, h2, h3, h4⟩ := h
  exact ⟨dx, w, k, t, s _ _ h1, h2.same s, h3.same s, h4.same s⟩
theorem make_same {x dx : Addr} {o u : HO} (hx : H x = none) (hd : H dx = none) (ne : dx ≠ x) : Same H (upd (upd H dx o) x u) :=
  (Jv.same_new hd).trans (Jv.same_new (by rw [upd_ne ne.symm]; exact hx))
theorem mk_good {Q : VK} {E : XK} {xl xw xk : V} {dl dw dk : PyData} {lls : List (List (List Int))} {p q : Nat} (hl : Jv.Dv K H1 xl dl) (hw : Jv.Dv K H1 xw dw) (hk : Jv.Dv K H1 xk dk) (g : GoodG dl dw dk l lls k0 k1 p q)
    (k : ∀ r H', Same H1 H' → H1 r = none → GAt K H' C r l (wantD l lls) k0 k1 p q → Q (.ref r) H') :
    ∀ x dx, H1 x = none → H1 dx = none → dx ≠ x → sp_Goals_init K C CB [.ref x, xl, xw, xk] (upd (upd H1 dx (.own x)) x (.ins C dx [])) (fun v H2 => v = .non ∧ Q (.ref x) H2) E := fun x dx hx hd ne => by
  have s := make_same (o := .own x) (u := .ins C dx []) hx hd ne
  refine ⟨x, dx, xl, dl, xw, dw, xk, dk, rfl, upd_same, hl.same s, hw.same s, g.few, hk.same s, .inr ⟨l, lls, k0, k1, p, q, g, fun H' old ga => ⟨rfl, k x H' (fun b o hb => ?_) hx ga⟩⟩⟩
  exact old b o (ne_of_none hb hx) (s b o hb)
theorem mk_bad {Q : VK} {E : XK} {xl xw xk : V} {dl dw dk : PyData} {f : Str} (hl : Jv.Dv K H1 xl dl) (hw : Jv.Dv K H1 xw dw) (fw : Jv.few3 dw) (hk : Jv.Dv K H1 xk dk) (hf : faultG dl dw dk = some f)
    (k : ∀ d H', Same H1 H' → H' d = some (.xd [("what", .str f)]) → E (.ref CB) (some d) H') :
    ∀ x dx, H1 x = none → H1 dx = none → dx ≠ x → sp_Goals_init K C CB [.ref x, xl, xw, xk] (upd (upd H1 dx (.own x)) x (.ins C dx [])) (fun v H2 => v = .non ∧ Q (.ref x) H2) E := fun x dx hx hd ne => by
  have s := make_same (o := .own x) (u := .ins C dx []) hx hd ne
  exact ⟨x, dx, xl, dl, xw, dw, xk, dk, rfl, upd_same, hl.same s, hw.same s, fw, hk.same s, .inl ⟨f, hf, fun d H' s' hd' => k d H' (s.trans s') hd'⟩⟩
end
end K50

namespace K50
open PySem PySem.Spec PyProof.Rows L2
/-! ### weights: what they are made of -/
def allW (d : PyData) : Bool := (((Jv.seqD d).getD []).flatMap fun r => (Jv.seqD r).getD []).all fun e => Jv.wholeD e (.int 0) (.int 1000000)
def faultW (dw : PyData) : Option Str := if Jv.sidesD (sidesOf (Jv.linesD dw)) = false then some "sides" else if allW dw = false then some "weight" else none
structure Gw (L : List (List Int)) (p q : Nat) : Prop where
  hp : L.length = p
  hq : ∀ line ∈ L, line.length = q
  p0 : 1 ≤ p
  p6 : p ≤ 6
  q0 : 1 ≤ q
  q6 : q ≤ 6
  pq : p * q ≤ 12
  ent : ∀ line ∈ L, ∀ n ∈ line, 0 ≤ n ∧ n ≤ 1000000
structure GoodW (dw : PyData) (L : List (List Int)) (p q : Nat) : Prop where
  dw : LineR dw L
  g : Gw L p q
def rowW (line : List Int) : PyData := .tuple (line.map .int)
def linW (L : List (List Int)) : PyData := .tuple (L.map rowW)
def WAt (K : PySem.W.Frag) (H : Hp) (C a : Addr) (L : List (List Int)) (p q : Int) : Prop :=
  ∃ dx w s, H a = some (.ins C dx [("lines", w), ("sides", s)]) ∧ Jv.Dv K H w (linW L) ∧ Jv.Dv K H s (.tuple [.int p, .int q])
def intOf : PyData → Int
  | .int i => i
  | _ => 0
def rowsW (dw : PyData) : List (List Int) := ((Jv.seqD dw).getD []).map fun r => ((Jv.seqD r).getD []).map intOf
section
variable {dw : PyData} {L : List (List Int)} {p q : Nat}
theorem ends_len : ∀ {rows : List PyData} {L : List (List Int)}, Paired EndsR rows L → rows.map (fun e => ((Jv.seqD e).getD []).length) = L.map List.length
  | _, _, .nil => rfl
  | _, _, .cons a b => by
    rw [List.map_cons, List.map_cons, ends_len b, a]; simp
theorem LineR.rows {dw : PyData} (h : LineR dw L) : rowsW dw = L := by
  obtain ⟨rows, e, pr⟩ := h
  unfold rowsW
  rw [e]
  show rows.map _ = L
  clear e
  induction pr with
  | nil => rfl
  | cons a b ih =>
    rw [List.map_cons, ih, a]
    congr 1
    show (List.map _ _).map intOf = _
    rw [List.map_map]
    exact (List.map_congr_left fun n _ => rfl).trans (List.map_id _)
theorem GoodW.lines (g : GoodW dw L p q) : Jv.linesD dw = .some (p, q) := by
  obtain ⟨rows, e, pr⟩ := g.dw
  have hall : (rows.all fun e => (Jv.seqD e).isSome) = true := List.all_eq_true.mpr fun r hr => by
    obtain ⟨line, _, h⟩ := memL pr hr
    rw [h]; rfl
  unfold Jv.linesD
  rw [e]; dsimp only
  rw [hall, if_pos rfl, ends_len pr]
  have hp := g.g.hp
  have hq := g.g.hq
  have p0 := g.g.p0
  cases L with
  | nil => exfalso; rw [← hp] at p0; exact absurd p0 (by decide)
  | cons a r =>
    rw [List.map_cons]
    show (if _ then _ else _) = _
    have h1 : a.length = q := hq a List.mem_cons_self
    have h2 : (r.map List.length).all (fun m => decide (m = a.length)) = true := List.all_eq_true.mpr fun m hm => by
      obtain ⟨b, hb, rfl⟩ := List.mem_map.mp hm
      exact decide_eq_true (by rw [h1]; exact hq b (List.mem_cons_of_mem _ hb))
    rw [h2, if_pos rfl, List.length_map, h1, ← hp]; rfl
theorem Gw.sidesD (g : Gw L p q) : Jv.sidesD (.tuple [.int p, .int q]) = true := by
  show decide _ = true
  have h := g.pq
  refine decide_eq_true ⟨⟨?_, ?_⟩, ⟨?_, ?_⟩, ?_⟩
  · have := g.p0; omega
  · have := g.p6; omega
  · have := g.q0; omega
  · have := g.q6; omega
  · exact_mod_cast h
theorem GoodW.sides (g : GoodW dw L p q) : Jv.sidesD (sidesOf (Jv.linesD dw)) = true := by
  rw [g.lines]; exact g.g.sidesD
theorem GoodW.allW (g : GoodW dw L p q) : allW dw = true := by
  obtain ⟨rows, e, pr⟩ := g.dw
  unfold K50.allW
  rw [e]
  refine List.all_eq_true.mpr fun x hx => ?_
  obtain ⟨r, hr, hx⟩ := List.mem_flatMap.mp hx
  obtain ⟨line, hline, e2⟩ := memL pr hr
  rw [show Jv.seqD r = some (line.map .int) from e2] at hx
  obtain ⟨n, hn, rfl⟩ := List.mem_map.mp (show x ∈ line.map PyData.int from hx)
  obtain ⟨a, b⟩ := g.g.ent line hline n hn
  show (decide (0 ≤ n) && decide (n ≤ 1000000)) = true
  rw [decide_eq_true a, decide_eq_true b]; rfl
theorem GoodW.nofault (g : GoodW dw L p q) : faultW dw = none := by
  unfold faultW
  rw [g.sides, g.allW]; rfl
theorem GoodW.few (g : GoodW dw L p q) : Jv.few2 dw := by
  obtain ⟨rows, e, pr⟩ := g.dw
  intro ds e2
  rw [e] at e2; cases e2
  have h1 := g.g.hp; have h2 := g.g.p6
  refine ⟨by rw [Paired.length pr]; omega, fun r hr es e3 => ?_⟩
  obtain ⟨line, hline, h⟩ := memL pr hr
  rw [h] at e3; cases e3
  have := g.g.hq line hline; have := g.g.q6
  rw [List.length_map]; omega
theorem pairs_of : ∀ {rows : List PyData}, (rows.all fun e => (Jv.seqD e).isSome) = true → ((rows.flatMap fun r => (Jv.seqD r).getD []).all fun e => Jv.wholeD e (.int 0) (.int 1000000)) = true →
    Paired EndsR rows (rows.map fun r => ((Jv.seqD r).getD []).map intOf) ∧ ∀ line ∈ rows.map (fun r => ((Jv.seqD r).getD []).map intOf), ∀ n ∈ line, 0 ≤ n ∧ n ≤ 1000000
  | [], _, _ => ⟨.nil, fun _ h => by cases h⟩
  | r :: rs, h1, h2 => by
    rw [List.all_cons, Bool.and_eq_true] at h1
    rw [List.flatMap_cons, List.all_append, Bool.and_eq_true] at h2
    obtain ⟨i1, i2⟩ := pairs_of h1.2 h2.2
    obtain ⟨es, he⟩ := Option.isSome_iff_exists.mp h1.1
    have h3 := h2.1
    rw [he] at h3
    have key : ∀ e ∈ es, e = .int (intOf e) ∧ 0 ≤ intOf e ∧ intOf e ≤ 1000000 := fun e m => by
      obtain ⟨i, rfl, a, b⟩ := Jv.wholeD_int (List.all_eq_true.mp h3 e m)
      exact ⟨rfl, a, b⟩
    refine ⟨.cons ?_ i1, fun line hl => ?_⟩
    · show Jv.seqD r = some ((((Jv.seqD r).getD []).map intOf).map .int)
      rw [he, List.map_map]
      congr 1
      exact ((List.map_congr_left fun e m => (key e m).1.symm).trans (List.map_id _)).symm
    · rw [List.map_cons] at hl
      rcases List.mem_cons.mp hl with rfl | hl
      · rw [he]
        intro n hn
        obtain ⟨e, m, rfl⟩ := List.mem_map.mp hn
        exact (key e m).2
      · exact i2 line hl
theorem good_of (h : faultW dw = none) : ∃ p q, GoodW dw (rowsW dw) p q := by
  unfold faultW at h
  split at h
  · cases h
  rename_i hs
  split at h
  · cases h
  rename_i ha
  have hs : Jv.sidesD (sidesOf (Jv.linesD dw)) = true := by simpa using hs
  have ha : allW dw = true := by simpa using ha
  cases e1 : Jv.linesD dw with
  | none => rw [e1] at hs; cases hs
  | some pq =>
    obtain ⟨p, q⟩ := pq
    rw [e1] at hs
    have hs := of_decide_eq_true (show decide _ = true from hs)
    unfold Jv.linesD at e1
    cases er : Jv.seqD dw with
    | none => rw [er] at e1; cases e1
    | some rows =>
      rw [er] at e1; dsimp only at e1
      cases hb : rows.all (fun e => (Jv.seqD e).isSome) with
      | false => rw [hb, if_neg Bool.false_ne_true] at e1; cases e1
      | true =>
      rw [hb, if_pos rfl] at e1
      unfold allW at ha
      rw [er] at ha
      obtain ⟨i1, i2⟩ := pairs_of hb ha
      have e0 : rowsW dw = rows.map fun r => ((Jv.seqD r).getD []).map intOf := by unfold rowsW; rw [er]; rfl
      refine ⟨p, q, ⟨rows, er, by rw [e0]; exact i1⟩, ?_⟩
      rw [e0]
      obtain ⟨⟨a1, a2⟩, ⟨a3, a4⟩, a5⟩ := hs
      have hpq : rows.length = p ∧ ∀ r ∈ rows, ((Jv.seqD r).getD []).length = q := by
        cases rows with
        | nil => cases e1
        | cons r rs =>
          rw [List.map_cons] at e1
          dsimp only at e1
          split at e1
          · rename_i hk
            cases e1
            refine ⟨by simp, fun x hx => ?_⟩
            rcases List.mem_cons.mp hx with rfl | hx
            · rfl
            · exact of_decide_eq_true (List.all_eq_true.mp hk _ (List.mem_map.mpr ⟨x, hx, rfl⟩))
          · cases e1
      refine ⟨by rw [List.length_map]; exact hpq.1, fun line hl => ?_, by omega, by omega, by omega, by omega, by exact_mod_cast a5, i2⟩
      obtain ⟨r, hr, rfl⟩ := List.mem_map.mp hl
      rw [List.length_map]; exact hpq.2 r hr
end
def sp_Weights_init (K : PySem.W.Frag) (C CB : Addr) : Sp := fun vs H Q E => ∃ a dx xw dw, vs = [.ref a, xw] ∧ H a = some (.ins C dx []) ∧ Jv.Dv K H xw dw ∧ Jv.few2 dw ∧
  (∀ f, faultW dw = some f → ∀ d H', Same H H' → H' d = some (.xd [("what", .str f)]) → E (.ref CB) (some d) H') ∧
  (∀ L p q, GoodW dw L p q → ∀ H', (∀ b o, b ≠ a → H b = some o → H' b = some o) → WAt K H' C a L p q → Q .non H')
section
variable {P : Program} {w : World} {K : PySem.W.Frag} {mg : Str → Option Value} {base : Heap}
theorem ok_BadWeightsu_initu (T : Tx) (O : Ok K mg T) : FnOk P w K mg base CX0 1 T.f_BadWeightsu_initu T.d_BadWeightsu_initu ["self", "what"] (sp_BadX_init T.C_BadWeights "what") := by
  refine O.F_BadWeightsu_initu.ok sc_BadWeightsu_initu (fun vs H Q E h => by obtain ⟨_, _, rfl, _⟩ := h; rfl) (fun cdv A outer s H vs Q E hr h => ?_)
  obtain ⟨a, v, rfl, ha, q⟩ := h
  refine ⟨_, (pss_one (ps_ost (pv 0) (pv 1))), ?_⟩
  exact ⟨_, rfl, _, rfl, a, T.C_BadWeights, rfl, O.x_BadWeights.o, O.n_BadWeights_what, .inl ⟨ha, fun d hd ne => q d hd ne⟩⟩
theorem ok_Weightsu_initu (T : Tx) (O : Ok K mg T) : FnOk P w K mg base (L2.CX P w) 3 T.f_Weightsu_initu T.d_Weightsu_initu ["self", "lines"] (sp_Weights_init K T.C_Weights T.C_BadWeights) := by
  refine O.F_Weightsu_initu.okX sc_Weightsu_initu (fun vs H Q E h => by obtain ⟨_, _, _, _, rfl, _⟩ := h; rfl) (fun cdv A outer s H vs Q E hr h => ?_)
  obtain ⟨a, dx, xw, dw, rfl, ha, hw, fw, qf, qk⟩ := h
  refine ⟨_, (pss_cons (ps_set (i := 2) sc_Weightsu_initu.nd rfl (Or.inl rfl) (pe_call (ok_sides_of_lines T O) (hr.mono (by decide)) (by rfl) O.m_sides_of_lines O.F_sides_of_lines.kp O.b_sides_of_lines .nil pass0 (pa_cons (pv 1) pa_nil)))
  (pss_cons (ps_if (pt_not (pt_val (pe_call (ok_are_sides T O) (hr.mono (by decide)) (by rfl) O.m_are_sides O.F_are_sides.kp O.b_are_sides .nil pass0 (pa_cons (pv 2) pa_nil)))) (pss_one (ps_raise rfl (takes_of rfl rfl rfl rfl) (pmk_oex O.x_BadWeights.o O.x_BadWeights.n O.x_BadWeights.y (ok_BadWeightsu_initu T O) (hr.mono (by decide)) O.b_BadWeightsu_initu .nil pass0 (by rfl) O.m_BadWeights (pa_cons pe_str pa_nil)))) pss_nil)
  (pss_cons (ps_if (pt_not (pt_val (pe_callB (r := rAll K) (cr_all rfl) (by rfl) O.z_all (by decide +kernel) (pa_cons (pe_lc2 (own := [("line", 3), ("weight", 4)]) (vs1 := [4]) (by rfl) sc_Weightsu_initu.nd (Jv.piOr (show PI _ _ _ (iList K _) from pi_list (pv 1)) (show PI _ _ _ (iTup K _) from pi_tup (pv 1))) (blkOk_by (own := [("line", 3), ("weight", 4)]) (N := ["self", "lines", "sides", "line", "weight"]) (sc := defScope s_Weightsu_initu) (by decide +kernel)) (by decide) (fun _ _ _ _ _ => (pg_name (i := 3) sc_Weightsu_initu.nd rfl (Or.inl rfl))) (fun _ _ _ _ _ => pts_nil) (fun _ _ _ _ _ => (Jv.piOr (show PI _ _ _ (iList K _) from pi_list (pv 3)) (show PI _ _ _ (iTup K _) from pi_tup (pv 3)))) (fun _ _ _ _ _ => (pg_name (i := 4) sc_Weightsu_initu.nd rfl (Or.inl rfl))) (fun _ _ _ _ _ => pts_nil) (fun _ _ _ _ _ => (pe_call (ok_is_whole T O) (hr.mono (by decide)) (by rfl) O.m_is_whole O.F_is_whole.kp O.b_is_whole .nil pass0 (pa_cons (pv 4) (pa_cons pe_int (pa_cons (pe_glob (v := .int (1000000)) (by rfl) O.c_COST_MOST ⟨_, rfl⟩) pa_nil)))))) pa_nil)))) (pss_one (ps_raise rfl (takes_of rfl rfl rfl rfl) (pmk_oex O.x_BadWeights.o O.x_BadWeights.n O.x_BadWeights.y (ok_BadWeightsu_initu T O) (hr.mono (by decide)) O.b_BadWeightsu_initu .nil pass0 (by rfl) O.m_BadWeights (pa_cons pe_str pa_nil)))) pss_nil)
  (pss_cons (ps_fld (pv 0) (pe_callTy (r := Jv.rTupOf K) call_tuple_of (by rfl) O.z_tuple (by decide +kernel) (pa_cons (pe_lc (own := [("line", 3)]) (by rfl) sc_Weightsu_initu.nd (Jv.piOr (show PI _ _ _ (iList K _) from pi_list (pv 1)) (show PI _ _ _ (iTup K _) from pi_tup (pv 1))) (blkOk_by (own := [("line", 3)]) (N := ["self", "lines", "sides", "line", "weight"]) (sc := defScope s_Weightsu_initu) (scope := ({ kind := .function, names := [(".0", .local), ("line", .local), ("tuple", .globalImplicit)], isGenerator := false, isCoroutine := false } : Scope)) (by decide +kernel)) (fun _ _ _ _ _ => (pg_name (i := 3) sc_Weightsu_initu.nd rfl (Or.inl rfl))) (fun _ _ _ _ _ => pts_nil) (fun _ _ _ _ _ => (pe_callTy (r := Jv.rTupOf K) call_tuple_of (by rfl) O.z_tuple (by decide +kernel) (pa_cons (pv 3) pa_nil)))) pa_nil)) rfl)
  (pss_one (ps_fld (pv 0) (pv 2) rfl)))))), ?_⟩
  walk_at "r"
  have rz : ∀ (f : Str) (Hx : Hp) (σ : L2.St), Same H Hx → faultW dw = some f → tMkO T.C_BadWeights (sp_BadX_init T.C_BadWeights "what") [] (tCons (tC (.str f)) tNil) σ Hx (fun cls d H' => E cls d H') := fun f Hx σ sx hf =>
    ⟨Nat.le_of_ble_eq_true rfl, fun a ha => ⟨a, _, rfl, upd_same, fun d hd ne => ⟨rfl, d, _, upd_same, by rw [upd_ne ne]; exact upd_same, by rw [upd_ne ne] at hd; exact hd, by
      rw [upd_ne ne] at hd
      exact qf f hf d _ (sx.trans (raise_same ha hd)) upd_same⟩⟩⟩
  refine ⟨_, _, rfl, hw, fw, fun en H1 s1 => ?_, fun p0 q0 en t H1 s1 ht => ?_⟩
  · walk_at "r"
    refine ⟨_, _, rfl, .non, fun H2 s2 => ?_⟩
    walk_at "r"
    exact rz _ _ _ (s1.trans s2) (by unfold faultW; rw [en]; rfl)
  · walk_at "r"
    refine ⟨_, _, rfl, .tup (Jv.sqT_at ht) (.cons (.int _) (.cons (.int _) .nil)), fun H2 s2 => ?_⟩
    have s12 := s1.trans s2
    have ht2 := s2 _ _ ht
    walk_at "r"
    have hso : sidesOf (Jv.linesD dw) = .tuple [.int p0, .int q0] := by rw [en]; rfl
    cases es : Jv.sidesD (.tuple [.int p0, .int q0]) with
    | false =>
      walk_at "r"
      exact rz _ _ _ s12 (by unfold faultW; rw [hso, es]; rfl)
    | true =>
    walk_at "r"
    have hrows : ∃ rows, Jv.seqD dw = some rows ∧ rows.all (fun e => (Jv.seqD e).isSome) = true := by
      unfold Jv.linesD at en
      cases er : Jv.seqD dw with
      | none => rw [er] at en; cases en
      | some rows =>
        refine ⟨rows, rfl, ?_⟩
        rw [er] at en; dsimp only at en
        cases hb : rows.all (fun e => (Jv.seqD e).isSome) with
        | true => rfl
        | false => rw [hb, if_neg Bool.false_ne_true] at en; cases en
    obtain ⟨rows, er, hall⟩ := hrows
    obtain ⟨xs, skw, alw⟩ := hw.sk er
    obtain ⟨fr1, fr2⟩ := fw rows er
    refine Jv.lc2D (K := K) (N := []) (i := 1) (a := 3) (b := 4) rfl (skw.same s12) (alw.same s12) .nil (fun e => .bool (Jv.wholeD e (.int 0) (.int 1000000))) (fun e he => ?_) fr1 (fun _ => rfl) (fun _ _ => rfl) (fun _ => rfl) (fun v u d D H3 du hd3 s3 hN hD PP hP => ?_) (fun D ys H3 s3 hD eD dv => ?_)
    · obtain ⟨z, hz⟩ := Option.isSome_iff_exists.mp (List.all_eq_true.mp hall e he)
      exact ⟨z, hz, fr2 e he z hz⟩
    · obtain ⟨e, he, z, hz, hd3⟩ := hd3
      walk_at "r"
      refine ⟨_, _, _, _, rfl, du, .inr ⟨_, rfl⟩, .inr ⟨_, rfl⟩, ?_⟩
      rw [du.whole]
      exact hP _ _ (Same.refl _) (.bl _)
    · walk_at "r"
      rw [Jv.hide_nil] at dv
      have efl : rows.flatMap (Jv.rowG fun e => .bool (Jv.wholeD e (.int 0) (.int 1000000))) = ((rows.flatMap fun r => (Jv.seqD r).getD []).map fun e => Jv.wholeD e (.int 0) (.int 1000000)).map PyData.bool := by
        rw [List.map_map, List.map_flatMap]; rfl
      rw [efl] at dv
      rw [Jv.dv_bools dv] at eD
      refine ⟨D, _, rfl, Jv.sqL_at eD, ?_⟩
      have eae : ((rows.flatMap fun r => (Jv.seqD r).getD []).map fun e => Jv.wholeD e (.int 0) (.int 1000000)).all id = allW dw := by
        rw [List.all_map]; unfold allW; rw [er]; rfl
      rw [eae]
      walk_at "r"
      have s13 := s12.trans s3
      cases eE : allW dw with
      | false =>
        walk_at "r"
        exact rz _ _ _ s13 (by unfold faultW; rw [hso, es, eE]; rfl)
      | true =>
      walk_at "r"
      obtain ⟨p, q, g⟩ := good_of (dw := dw) (by unfold faultW; rw [hso, es, eE]; rfl)
      have epq := g.lines
      rw [en] at epq
      cases epq
      obtain ⟨rows', er', prw⟩ := g.dw
      rw [er] at er'
      cases er'
      have ha4 := s13 _ _ ha
      have hw5 := hw.same s13
      obtain ⟨ws, skw5, alw5⟩ := hw5.sk er
      refine Jv.r_sfld ?_
      walk_at "r"
      have lws := alw5.len
      have lrw := Paired.length prw
      refine Jv.lcS2 (K := K) (N := []) (j := 3) (i := 1) rfl skw5 .nil ((rowsW dw).map rowW) (by rw [List.length_map]; omega) (by omega) (fun i v e D1 H6 hi hv he s6 hN1 hD1 PP hP => ?_) (fun D1 ys H6 s6 hD1 eD1 dv1 _ => ?_)
      · obtain ⟨r, hr, dr⟩ := alw5.at hv
        obtain ⟨line, hline, hLR⟩ := pairAt prw hr
        rw [List.getElem?_map, hline] at he
        obtain rfl := Option.some.inj he
        have du1 : Jv.Dv K (Jv.hide [D1] H6) v r := by
          have := dr
          rw [← Jv.hide_nil (H := H3)] at this
          exact this.same (Jv.hide_more s6 hD1)
        walk_at "r"
        cases du1 with
        | lst h q =>
          cases hLR
          exact Jv.r_tupOfL (Jv.sqL_at (Jv.hide_some h).2) fun t2 ht2 => hP _ _ (Jv.same_new ht2) (Jv.dv_new ht2 hN1 q)
        | tup h q =>
          cases hLR
          exact Jv.r_tupOfT (Jv.Same.sqT Jv.hide_le h) (hP _ _ (Same.refl _) (.tup h q))
        | _ => cases hLR
      · walk_at "r"
        refine ⟨D1, _, rfl, .inl ⟨Jv.sqL_at eD1, fun t2 ht2' => ?_⟩⟩
        rw [Jv.hide_nil] at dv1
        have hW : Jv.Dv K (upd H6 t2 (.tup ys)) (.ref t2) (linW (rowsW dw)) := .tup (Jv.sqT_at upd_same) (dv1.same (Jv.same_new ht2'))
        have s6n := s6.trans (Jv.same_new (u := .tup ys) ht2')
        have ha7 := s6n _ _ ha4
        have ht7 := s6n _ _ (s3 _ _ ht2)
        have old7 : ∀ b o, b ≠ a → H b = some o → upd H6 t2 (.tup ys) b = some o := fun b o nb hb => s6n _ _ (s13 _ _ hb)
        generalize upd H6 t2 (.tup ys) = H7 at hW ha7 ht7 old7 ⊢
        walk_at "r"
        refine ⟨a, _, dx, _, rfl, ha7, O.o_Weights, O.n_Weights_lines, by decide, ?_⟩
        walk_at "r"
        have hW8 := hW.ins (o := .ins T.C_Weights dx (putF "lines" (.ref t2) [])) ha7
        have ht8 : upd H7 a (.ins T.C_Weights dx (putF "lines" (.ref t2) [])) t = some (.tup [.int p0, .int q0]) := Jv.kpO ht7 fun e => by rw [e, ha7] at ht7; cases ht7
        have old8 : ∀ b o, b ≠ a → H b = some o → upd H7 a (.ins T.C_Weights dx (putF "lines" (.ref t2) [])) b = some o := fun b o nb hb => Jv.kpO (old7 b o nb hb) nb
        have ha8 : upd H7 a (.ins T.C_Weights dx (putF "lines" (.ref t2) [])) a = some (.ins T.C_Weights dx [("lines", .ref t2)]) := upd_same
        generalize upd H7 a (.ins T.C_Weights dx (putF "lines" (.ref t2) [])) = H8 at hW8 ht8 old8 ha8 ⊢
        show sFld K (tVar 0) (tVar 2) "sides" _ _ _
        refine Jv.r_sfld ?_
        walk_at "r"
        refine ⟨a, _, dx, _, rfl, ha8, O.o_Weights, O.n_Weights_sides, Nat.le_of_ble_eq_true rfl, ?_⟩
        refine qk _ _ _ g _ (fun b o nb hb => Jv.kpO (old8 b o nb hb) nb) ⟨dx, _, _, upd_same, hW8.ins ha8, .tup (Jv.sqT_at (Jv.kpO ht8 fun e => by rw [e, ha8] at ht8; cases ht8)) (.cons (.int _) (.cons (.int _) .nil))⟩
end
end K50

namespace Jv
open PySem PySem.Spec PyProof.Rows L2
/-! ### what is made later -/
/-- H' without the lists that H has -/
def newer (H H' : Hp) : Hp := fun b => match H b with
  | some (.lst _) => none
  | _ => H' b
theorem DvAll.app {K : PySem.W.Frag} {H : Hp} : ∀ {vs ws : List V} {ds es : List PyData}, DvAll K H vs ds → DvAll K H ws es → DvAll K H (vs ++ ws) (ds ++ es)
  | _, _, _, _, .nil, q => q
  | _, _, _, _, .cons a b, q => .cons a (DvAll.app b q)
section
variable {K : PySem.W.Frag} {H H' H1 : Hp} {b : Addr} {o : HO} {N : List Addr}
theorem newer_le : Same (newer H H') H' := fun b o e => by
  unfold newer at e
  split at e
  · cases e
  · exact e
theorem newer_at (n : ∀ ys, H b ≠ some (.lst ys)) (e : H' b = some o) : newer H H' b = some o := by
  unfold newer
  split
  · rename_i ys h; exact (n ys h).elim
  · exact e
theorem newer_new (n : H b = none) (e : H' b = some o) : newer H H' b = some o := newer_at (fun ys h => by rw [n] at h; cases h) e
theorem newer_not (e : newer H H' b = some o) : (∀ ys, H b ≠ some (.lst ys)) ∧ H' b = some o := by
  refine ⟨fun ys h => ?_, newer_le b o e⟩
  unfold newer at e
  rw [h] at e; cases e
theorem newer_hide (hN : ∀ b ∈ N, ∃ ys, H b = some (.lst ys)) : Same (newer H H') (hide N H') := fun b o e => by
  obtain ⟨h1, h2⟩ := newer_not e
  exact hide_at (fun m => by obtain ⟨ys, h⟩ := hN b m; exact h1 ys h) h2
theorem newer_same (s : Same H' H1) : Same (newer H H') (newer H H1) := fun b o e => by
  obtain ⟨h1, h2⟩ := newer_not e
  exact newer_at h1 (s _ _ h2)
theorem newer_sub (hs : ∀ b ys, H b = some (.lst ys) → ∃ zs, H1 b = some (.lst zs)) : Same (newer H1 H') (newer H H') := fun b o e => by
  obtain ⟨h1, h2⟩ := newer_not e
  exact newer_at (fun ys h => by obtain ⟨zs, hz⟩ := hs b ys h; exact h1 zs hz) h2
end
end Jv
namespace Jv
open PySem PySem.Spec PyProof.Rows L2
/-! ### the hand beside data -/
section
variable {K : PySem.W.Frag} {H H' H1 : Hp} {p l b : Addr} {o : HO}
theorem Hand.ne2 (h : Hand H p l) (n : H b = none) : b ≠ p ∧ b ≠ l := by
  obtain ⟨ns, k, c, t, hA⟩ := h
  exact ⟨fun e => (by rw [e, hA.hp] at n; cases n), fun e => (by rw [e, hA.hl] at n; cases n)⟩
theorem Hand.upd (h : Hand H p l) (n1 : b ≠ p) (n2 : b ≠ l) : Hand (L2.upd H b o) p l := by
  obtain ⟨ns, k, c, t, hA⟩ := h
  exact ⟨ns, k, c, t, by rw [upd_ne n1.symm]; exact hA.hp, by rw [upd_ne n2.symm]; exact hA.hl, hA.nn, hA.few, hA.bd⟩
theorem Kp.free (k : Kp p H H') (h : Hand H' p l) (n : H' b = none) : H b = none := by
  cases e : H b with
  | none => rfl
  | some o =>
    obtain ⟨u, hu⟩ := h.at
    by_cases nb : b = p
    · rw [nb, hu] at n; cases n
    · rw [k b o nb e] at n; cases n
theorem Kp.hide (k : Kp p H H') : Same (Jv.hide [p] H) (Jv.hide [p] H') := fun b o e => by
  obtain ⟨n, e2⟩ := hide_some e
  exact hide_at n (k b o (fun h => n (by rw [h]; exact List.mem_singleton.mpr rfl)) e2)
theorem hide_one {p b : Addr} {o : HO} (n : b ≠ p) (h : H b = some o) : Jv.hide [p] H b = some o := hide_at (fun m => n (List.mem_singleton.mp m)) h
theorem Kp.hideM {N : List Addr} (k : Kp p H H') (m : p ∈ N) : Same (Jv.hide N H) (Jv.hide N H') := fun b o e => by
  obtain ⟨n, e2⟩ := hide_some e
  exact hide_at n (k b o (fun h => n (by rw [h]; exact m)) e2)
theorem Hand.lst (h : Hand H p l) : ∀ b ∈ [p], ∃ ys, H b = some (.lst ys) := fun b m => by
  rw [List.mem_singleton.mp m]
  obtain ⟨_, _, _, _, hA⟩ := h
  exact ⟨_, hA.hp⟩
theorem Hand.neTup {xs : List V} (h : Hand H p l) (e : H b = some (.tup xs)) : b ≠ p := fun z => by
  obtain ⟨_, _, _, _, hA⟩ := h
  rw [z, hA.hp] at e; cases e
theorem eqv_self {d : PyData} (h : SeqAt.shaped d = true) : PyData.eqv d d = true := SeqAt.eqv_refl d (SeqAt.canLay_of_shaped h)
theorem ne_self {Q : VK} {x y : V} {d : PyData} (hx : Jv.Dv K H x d) (hy : Jv.Dv K H y d) (h : SeqAt.shaped d = true) (q : Q (.bl false) H) : rNeD K x y H Q :=
  ⟨d, d, hx.dp, hy.dp, h, h, by rw [eqv_self h]; exact q⟩
theorem eq_self {Q : VK} {x y : V} {d : PyData} (hx : Jv.Dv K H x d) (hy : Jv.Dv K H y d) (h : SeqAt.shaped d = true) (q : Q (.bl true) H) : rEqD K x y H Q :=
  ⟨d, d, hx.dp, hy.dp, h, h, by rw [eqv_self h]; exact q⟩
theorem r_make0 {C : Addr} {sp : Sp} {dvs : List V} {E : XK} {t : TA} {σ : L2.St} {Q : VK} (h : t σ H fun vs H1 => ∀ x dx, H1 x = none → H1 dx = none → dx ≠ x →
  sp (.ref x :: (vs ++ dvs)) (L2.upd (L2.upd H1 dx (.own x)) x (.ins C dx [])) (fun v H2 => v = .non ∧ Q (.ref x) H2) E) : tMake C sp dvs E t σ H Q := h
theorem gen_make {C : Addr} {sp : Sp} {dvs : List V} {E : XK} {t : TA} {σ : L2.St} {Q : VK} (h : ∀ Q' : VK, (∀ v H, Q v H → Q' v H) → tMake C sp dvs E t σ H Q') : tMake C sp dvs E t σ H Q := h Q fun _ _ q => q
theorem r_methC {m : Str} {C : Addr} {sp : Sp} {dvs : List V} {E : L2.St → XK} {ta : TE} {t : TA} {σ : L2.St} {Q : VK} (h : ta σ H fun x H1 => ∃ a dx fs, x = .ref a ∧ H1 a = some (.ins C dx fs) ∧ fs.lookup m = none ∧ t σ H1 fun vs H2 => sp (x :: (vs ++ dvs)) H2 Q (E σ)) : Jv.tMethX C m sp dvs E ta t σ H Q := h
theorem r_makeC {C : Addr} {sp : Sp} {dvs : List V} {E : L2.St → XK} {t : TA} {σ : L2.St} {Q : VK} (h : t σ H fun vs H1 => ∀ x dx, H1 x = none → H1 dx = none → dx ≠ x →
  sp (.ref x :: (vs ++ dvs)) (L2.upd (L2.upd H1 dx (.own x)) x (.ins C dx [])) (fun v H2 => v = .non ∧ Q (.ref x) H2) (E σ)) : Jv.tMakeX C sp dvs E t σ H Q := h
/-- one of a list's elements -/
theorem pickH {H2 : Hp} {Q : VK} {t : Addr} {xs : List V} {ds : List PyData} {z : Int} (e : H t = some (.lst xs)) (al : Jv.DvAll K H2 xs ds) (z0 : 0 ≤ z) (z1 : z < xs.length) (k : ∀ v d, d ∈ ds → Jv.Dv K H2 v d → Q v H) : rIxL K (.ref t) (.int z) H Q := by
  have hz : z.toNat < xs.length := by omega
  obtain ⟨d, hd, dv⟩ := al.at (List.getElem?_eq_getElem hz)
  exact Jv.r_ixL (Jv.sqL_at e) (Jv.at_i z0 (List.getElem?_eq_getElem hz)) (k _ d (List.mem_of_getElem? hd) dv)
theorem shaped_word : SeqAt.shaped (.list [.str "bad"]) = true := by decide +kernel
end
end Jv
namespace K50
open PySem PySem.Spec PyProof.Rows L2
/-! ### the law's own things -/
def sp_Lwhole (K : PySem.W.Frag) : Sp := fun vs H Q _ => ∃ x d, vs = [x] ∧ Jv.Dv K H x d ∧ Q (.bl (Jv.intD d)) H
theorem inV_ints {z : Int} : ∀ {ns : List Int}, inV (.int z) (ns.map V.int) = decide (z ∈ ns)
  | [] => by simp [inV]
  | a :: r => by
    have ih := inV_ints (z := z) (ns := r)
    unfold inV at ih ⊢
    rw [List.map_cons, List.any_cons, ih]
    by_cases h : a = z
    · subst h; simp [eqV]
    · have h2 : ¬ z = a := fun e => h e.symm
      simp [eqV, h, h2]
theorem flat_ints (ns : List Int) : (ns.map V.int).all flatV = true := by
  rw [List.all_map, List.all_eq_true]; intro n _; rfl
section
variable {P : Program} {w : World} {K : PySem.W.Frag} {mg : Str → Option Value} {base : Heap}
theorem ok_Lwhole (T : Tx) (O : Ok K mg T) : FnOk P w K mg base CX0 1 T.f_Lwhole T.d_Lwhole ["_law_thing"] (sp_Lwhole K) := by
  refine O.F_Lwhole.ok sc_Lwhole (fun vs H Q E h => by obtain ⟨_, _, rfl, _⟩ := h; rfl) (fun cdv A outer s H vs Q E hr h => ?_)
  obtain ⟨x, d, rfl, hx, q⟩ := h
  refine ⟨_, (pss_one (ps_ret (pe_and (pe_callB (r := rIsi K) call_isi (by rfl) O.z_isinstance (by decide +kernel) (pa_cons (pv 0) (pa_cons (pe_bltn (v := .ty "int") (by rfl) O.z_int (by decide +kernel) rfl) pa_nil))) (pe_one (pe_not (pe_callB (r := rIsi K) call_isi (by rfl) O.z_isinstance (by decide +kernel) (pa_cons (pv 0) (pa_cons (pe_bltn (v := .ty "bool") (by rfl) O.z_bool (by decide +kernel) rfl) pa_nil)))))))), ?_⟩
  walk_at "r"
  cases hx <;> walk_at "r" <;> exact q
end
end K50

namespace Jv
open PySem PySem.Spec PyProof.Rows L2
theorem r_makeX {C : Addr} {sp : Sp} {dvs : List V} {E : L2.St → XK} {t : TA} {σ : L2.St} {H : Hp} {Q : VK} (h : t σ H fun vs H1 => ∀ x dx, H1 x = none → H1 dx = none → dx ≠ x →
  sp (.ref x :: (vs ++ dvs)) (L2.upd (L2.upd H1 dx (.own x)) x (.ins C dx [])) (fun v H2 => v = .non ∧ Q (.ref x) H2) (E σ)) : Jv.tMakeX C sp dvs E t σ H Q := h
theorem sidesD_some {d : PyData} (h : sidesD d = true) : ∃ p q : Nat, seqD d = some [.int p, .int q] ∧ (1 ≤ p ∧ p ≤ 6) ∧ (1 ≤ q ∧ q ≤ 6) ∧ p * q ≤ 12 := by
  unfold sidesD at h
  split at h
  · rename_i p q e
    obtain ⟨⟨a1, a2⟩, ⟨a3, a4⟩, a5⟩ := of_decide_eq_true h
    have ep : ((p.toNat : Nat) : Int) = p := by omega
    have eq : ((q.toNat : Nat) : Int) = q := by omega
    refine ⟨p.toNat, q.toNat, by rw [ep, eq]; exact e, by omega, by omega, ?_⟩
    rw [← ep, ← eq] at a5
    exact_mod_cast a5
  · cases h
theorem eqv_i2 (a b c d : Int) : PyData.eqv (.tuple [.int a, .int b]) (.tuple [.int c, .int d]) = decide (a = c ∧ b = d) := by
  by_cases h1 : a = c <;> by_cases h2 : b = d <;> simp [PyData.eqv, PyData.eqvAll, h1, h2]
theorem tup_of {K : PySem.W.Frag} {H : Hp} {v : V} {ds : List PyData} (h : Dv K H v (.tuple ds)) : ∃ A xs, v = .ref A ∧ SqT K H A xs ∧ DvAll K H xs ds := by
  cases h with
  | tup h q => exact ⟨_, _, rfl, h, q⟩
theorem lst_of {K : PySem.W.Frag} {H : Hp} {v : V} {ds : List PyData} (h : Dv K H v (.list ds)) : ∃ A xs, v = .ref A ∧ H A = some (.lst xs) ∧ DvAll K H xs ds := by
  cases h with
  | lst h q => exact ⟨_, _, rfl, h, q⟩
theorem DvAll.rep {K : PySem.W.Frag} {H : Hp} {v : V} {d : PyData} (h : Dv K H v d) : ∀ n : Nat, DvAll K H (List.replicate n v) (List.replicate n d)
  | 0 => .nil
  | n + 1 => .cons h (DvAll.rep h n)
theorem flat_one' {n : Nat} {v : V} : (List.replicate n [v]).flatten = List.replicate n v := by
  induction n with
  | zero => rfl
  | succ n ih => rw [List.replicate_succ, List.flatten_cons, ih]; rfl
end Jv
namespace K50
open PySem PySem.Spec PyProof.Rows L2
/-! ### weights made of weights -/
theorem shaped_ii (a b : Int) : SeqAt.shaped (.tuple [.int a, .int b]) = true := by simp [SeqAt.shaped, PyData.canLay0, PyData.canLayAll0, PyData.depth, PyData.depthAll]
theorem canAll_map {α : Type} {f : α → PyData} (h : ∀ x, (f x).canLay0 = true) : ∀ l : List α, PyData.canLayAll0 (l.map f) = true
  | [] => by simp [PyData.canLayAll0]
  | a :: r => by simp [PyData.canLayAll0, h a, canAll_map h r]
theorem depAll_map {α : Type} {f : α → PyData} {n : Nat} (h : ∀ x, (f x).depth ≤ n) : ∀ l : List α, PyData.depthAll (l.map f) ≤ n
  | [] => by simp [PyData.depthAll]
  | a :: r => by
    have h1 := h a
    have h2 := depAll_map h r
    simp [PyData.depthAll]; omega
theorem shaped_of {d : PyData} (h : d.canLay0 = true) (h2 : d.depth ≤ 4) : SeqAt.shaped d = true := by
  simp [SeqAt.shaped, h]; omega
theorem can_linW (L : List (List Int)) : (linW L).canLay0 = true := by
  unfold linW
  simp only [PyData.canLay0]
  exact canAll_map (fun line => by unfold rowW; simp only [PyData.canLay0]; exact Jv.canAll_ints line) L
theorem dep_linW (L : List (List Int)) : (linW L).depth ≤ 2 := by
  unfold linW
  simp only [PyData.depth]
  have : PyData.depthAll (L.map rowW) ≤ 1 := depAll_map (fun line => by unfold rowW; simp only [PyData.depth, Jv.depAll_ints]; omega) L
  omega
theorem shaped_linW (L : List (List Int)) : SeqAt.shaped (linW L) = true := shaped_of (can_linW L) (by have := dep_linW L; omega)
theorem eqvAll_map {α : Type} [DecidableEq α] {f : α → PyData} (h : ∀ x y, PyData.eqv (f x) (f y) = decide (x = y)) : ∀ l m : List α, PyData.eqvAll (l.map f) (m.map f) = decide (l = m)
  | [], [] => rfl
  | [], b :: s => by simp [PyData.eqvAll]
  | a :: r, [] => by simp [PyData.eqvAll]
  | a :: r, b :: s => by
    rw [List.map_cons, List.map_cons, PyData.eqvAll, h, eqvAll_map h r s]
    by_cases e1 : a = b <;> by_cases e2 : r = s <;> simp [e1, e2]
theorem eqv_linW (L1 L2 : List (List Int)) : PyData.eqv (linW L1) (linW L2) = decide (L1 = L2) := by
  unfold linW
  rw [PyData.eqv]
  refine eqvAll_map (fun a b => ?_) _ _
  unfold rowW
  rw [PyData.eqv]
  exact eqvAll_map (fun i j => by rw [PyData.eqv]; by_cases e : i = j <;> simp [e]) _ _
def linLw (L : List (List Int)) : PyData := .list (L.map fun line => .list (line.map .int))
def linLT (L : List (List Int)) : PyData := .list (L.map rowW)
theorem lineR_T {L : List (List Int)} : LineR (linW L) L := ⟨_, rfl, pair_map fun line _ => rfl⟩
theorem lineR_LT {L : List (List Int)} : LineR (linLT L) L := ⟨_, rfl, pair_map fun line _ => rfl⟩
theorem lineR_LL {L : List (List Int)} : LineR (linLw L) L := ⟨_, rfl, pair_map fun line _ => rfl⟩
theorem few_line {dw : PyData} {L : List (List Int)} (h : LineR dw L) (h1 : L.length ≤ 100) (h2 : ∀ line ∈ L, line.length ≤ 100) : Jv.few2 dw := by
  obtain ⟨rows, e, pr⟩ := h
  intro ds e1
  rw [e] at e1; cases e1
  refine ⟨by rw [Paired.length pr]; exact h1, fun r hr es e3 => ?_⟩
  obtain ⟨line, hl, h⟩ := memL pr hr
  rw [h] at e3; cases e3
  rw [List.length_map]; exact h2 line hl
theorem order_len {k : Nat} {ns : List Int} (h : Jv.orderP k ns) : ns.length = k := by
  rw [h.2.length_eq]; simp
def mulW (b : Int) (L : List (List Int)) : List (List Int) := L.map fun line => line.map (· * b)
def addW (L M : List (List Int)) : List (List Int) := List.zipWith (List.zipWith (· + ·)) L M
def rowP (L : List (List Int)) (n1 : List Int) : List (List Int) := n1.map fun e => (L[e.toNat]?).getD []
def colP (L : List (List Int)) (n2 : List Int) : List (List Int) := L.map fun line => n2.map fun w => (line[w.toNat]?).getD 0
section
variable {L : List (List Int)} {p q : Nat}
theorem Gw.rows (w : Gw L p q) {n1 : List Int} (h : Jv.orderP p n1) : Gw (rowP L n1) p q := by
  have hl := order_len h
  have hL := w.hp
  have key : ∀ line ∈ rowP L n1, line ∈ L := fun line hm => by
    obtain ⟨e, he, rfl⟩ := List.mem_map.mp hm
    have b := h.1 e he
    have h1 : e.toNat < L.length := by omega
    rw [List.getElem?_eq_getElem h1]
    exact List.getElem_mem h1
  exact ⟨by unfold rowP; rw [List.length_map, hl], fun line hm => w.hq line (key line hm), w.p0, w.p6, w.q0, w.q6, w.pq, fun line hm => w.ent line (key line hm)⟩
theorem Gw.cols (w : Gw L p q) {n2 : List Int} (h : Jv.orderP q n2) : Gw (colP L n2) p q := by
  have hl := order_len h
  refine ⟨by unfold colP; rw [List.length_map, w.hp], fun line hm => ?_, w.p0, w.p6, w.q0, w.q6, w.pq, fun line hm n hn => ?_⟩
  · obtain ⟨l0, h0, rfl⟩ := List.mem_map.mp hm
    rw [List.length_map, hl]
  · obtain ⟨l0, h0, rfl⟩ := List.mem_map.mp hm
    obtain ⟨f, hf, rfl⟩ := List.mem_map.mp hn
    have b := h.1 f hf
    have h2 := w.hq l0 h0
    have h1 : f.toNat < l0.length := by omega
    rw [List.getElem?_eq_getElem h1]
    exact w.ent l0 h0 _ (List.getElem_mem h1)
theorem Gw.good {dw : PyData} (w : Gw L p q) (h : LineR dw L) : GoodW dw L p q := ⟨h, w⟩
theorem Gw.few {dw : PyData} (w : Gw L p q) (h : LineR dw L) : Jv.few2 dw := (w.good h).few
end
/-- sides that an instance keeps -/
def SAt (K : PySem.W.Frag) (H : Hp) (a : Addr) (p q : Int) : Prop := ∃ C dx fs s, H a = some (.ins C dx fs) ∧ Cls K C ∧ NoAttr K C "sides" ∧ fs.lookup (Str.ofString "sides") = some s ∧ Jv.Dv K H s (.tuple [.int p, .int q])
section
variable {K : PySem.W.Frag} {H H' H1 : Hp} {C CB a : Addr} {L : List (List Int)} {p q : Int}
theorem WAt.same (h : WAt K H C a L p q) (s : Same H H') : WAt K H' C a L p q := by
  obtain ⟨dx, w, t, h1, h2, h4⟩ := h
  exact ⟨dx, w, t, s _ _ h1, h2.same s, h4.same s⟩
theorem mkW {Q : VK} {E : XK} {xw : V} {dw : PyData} (hw : Jv.Dv K H1 xw dw) (fw : Jv.few2 dw)
    (kE : ∀ f, faultW dw = some f → ∀ d H', Same H1 H' → H' d = some (.xd [("what", .str f)]) → E (.ref CB) (some d) H')
    (kQ : ∀ L p q, GoodW dw L p q → ∀ r H', Same H1 H' → H1 r = none → WAt K H' C r L p q → Q (.ref r) H') :
    ∀ x dx, H1 x = none → H1 dx = none → dx ≠ x → sp_Weights_init K C CB [.ref x, xw] (upd (upd H1 dx (.own x)) x (.ins C dx [])) (fun v H2 => v = .non ∧ Q (.ref x) H2) E := fun x dx hx hd ne => by
  have s := make_same (o := .own x) (u := .ins C dx []) hx hd ne
  refine ⟨x, dx, xw, dw, rfl, upd_same, hw.same s, fw, fun f hf d H' s' hd' => kE f hf d H' (s.trans s') hd', fun L p q g H' old ga => ⟨rfl, kQ L p q g x H' (fun b o hb => ?_) hx ga⟩⟩
  exact old b o (ne_of_none hb hx) (s b o hb)
theorem mkW' {Q : VK} {E : XK} {xw : V} {dw : PyData} {p q : Nat} (hw : Jv.Dv K H1 xw dw) (g : GoodW dw L p q)
    (kQ : ∀ r H', Same H1 H' → H1 r = none → WAt K H' C r L p q → Q (.ref r) H') :
    ∀ x dx, H1 x = none → H1 dx = none → dx ≠ x → sp_Weights_init K C CB [.ref x, xw] (upd (upd H1 dx (.own x)) x (.ins C dx [])) (fun v H2 => v = .non ∧ Q (.ref x) H2) E :=
  mkW hw g.few (fun f hf => by rw [g.nofault] at hf; cases hf) fun L' p' q' g' r H' s n wa => by
    have e1 := g.dw.rows
    have e2 := g'.dw.rows
    have e3 : L = L' := by rw [← e1, ← e2]
    subst e3
    have e4 := g.lines
    rw [g'.lines] at e4
    cases e4
    exact kQ r H' s n wa
theorem raiseW {C : Addr} {f : Str} {E : XK} {σ : L2.St} {H : Hp} (k : ∀ d H', Same H H' → H' d = some (.xd [("what", .str f)]) → E (.ref C) (some d) H') : tMkO C (sp_BadX_init C "what") [] (tCons (tC (.str f)) tNil) σ H (fun cls d H' => E cls d H') :=
  ⟨Nat.le_of_ble_eq_true rfl, fun a ha => ⟨a, _, rfl, upd_same, fun d hd ne => ⟨rfl, d, _, upd_same, by rw [upd_ne ne]; exact upd_same, by rw [upd_ne ne] at hd; exact hd, by
      rw [upd_ne ne] at hd
      exact k d _ (raise_same ha hd) upd_same⟩⟩⟩
end
def sp_Weights_eq (K : PySem.W.Frag) (C : Addr) : Sp := fun vs H Q _ => ∃ a b L, ∃ p q : Int, vs = [.ref a, .ref b] ∧ WAt K H C a L p q ∧
  ((∃ L2, ∃ p2 q2 : Int, WAt K H C b L2 p2 q2 ∧ Q (.bl (decide (L = L2))) H) ∨ (∃ ys, SqT K H b ys ∧ Q (.bl false) H))
def sp_weight_sum (K : PySem.W.Frag) (C : Addr) : Sp := fun vs H Q _ => ∃ a L, ∃ p q : Nat, vs = [.ref a] ∧ WAt K H C a L p q ∧ Gw L p q ∧ ∀ H', Same H H' → Q (.int (L.map List.sum).sum) H'
def sp_check_weights (K : PySem.W.Frag) (CN : Addr) : Sp := fun vs H Q E => ∃ a b, ∃ p q p2 q2 : Int, vs = [.ref a, .ref b] ∧ SAt K H a p q ∧ SAt K H b p2 q2 ∧ ((p2 = p ∧ q2 = q) → Q (.ref b) H) ∧
  (¬ (p2 = p ∧ q2 = q) → ∀ e H', Same H H' → H' e = some (.xd [("what", .str "sides")]) → E (.ref CN) (some e) H')
def sp_even (K : PySem.W.Frag) (C CB : Addr) : Sp := fun vs H Q E => ∃ x d, vs = [x] ∧ Jv.Dv K H x d ∧ (Jv.sidesD d = false → ∀ e H', Same H H' → H' e = some (.xd [("what", .str "sides")]) → E (.ref CB) (some e) H') ∧
  (∀ p q : Nat, Jv.seqD d = some [.int p, .int q] → Jv.sidesD d = true → ∀ r H', Same H H' → WAt K H' C r (List.replicate p (List.replicate q 1)) p q → Q (.ref r) H')
def sp_times (K : PySem.W.Frag) (C CB : Addr) : Sp := fun vs H Q E => ∃ a x d L, ∃ p q : Nat, vs = [.ref a, x] ∧ WAt K H C a L p q ∧ Gw L p q ∧ Jv.Dv K H x d ∧
  (Jv.wholeD d (.int 0) (.int 1000) = false → ∀ e H', Same H H' → H' e = some (.xd [("what", .str "size")]) → E (.ref CB) (some e) H') ∧
  (∀ b, d = .int b → 0 ≤ b → b ≤ 1000 → (∀ f, faultW (linLw (mulW b L)) = some f → ∀ e H', Same H H' → H' e = some (.xd [("what", .str f)]) → E (.ref CB) (some e) H') ∧
    (∀ p q, GoodW (linLw (mulW b L)) (mulW b L) p q → ∀ r H', Same H H' → WAt K H' C r (mulW b L) p q → Q (.ref r) H'))
def sp_plus (K : PySem.W.Frag) (C CB CN : Addr) : Sp := fun vs H Q E => ∃ a b L M, ∃ p q p2 q2 : Nat, vs = [.ref a, .ref b] ∧ WAt K H C a L p q ∧ Gw L p q ∧ WAt K H C b M p2 q2 ∧ Gw M p2 q2 ∧
  (¬ (p2 = p ∧ q2 = q) → ∀ e H', Same H H' → H' e = some (.xd [("what", .str "sides")]) → E (.ref CN) (some e) H') ∧
  ((p2 = p ∧ q2 = q) → (∀ f, faultW (linLw (addW L M)) = some f → ∀ e H', Same H H' → H' e = some (.xd [("what", .str f)]) → E (.ref CB) (some e) H') ∧
    (∀ p q, GoodW (linLw (addW L M)) (addW L M) p q → ∀ r H', Same H H' → WAt K H' C r (addW L M) p q → Q (.ref r) H'))
def sp_renumbered_lines (K : PySem.W.Frag) : Sp := fun vs H Q _ => ∃ x sd y L n1, ∃ p q : Nat, vs = [x, .int sd, y] ∧ Gw L p q ∧ Jv.Dv K H x (linW L) ∧ Jv.Sk K H y (n1.map V.int) ∧
  ((sd = 0 ∧ Jv.orderP p n1 ∧ ∀ r H', Same H H' → Jv.Dv K H' r (linLT (rowP L n1)) → Q r H') ∨
   (sd = 1 ∧ Jv.orderP q n1 ∧ ∀ r H', Same H H' → Jv.Dv K H' r (linLw (colP L n1)) → Q r H'))
def sp_renumbered (K : PySem.W.Frag) (C CS CL : Addr) : Sp := fun vs H Q E => ∃ a sv x L, ∃ p q : Nat, ∃ ds d, vs = [.ref a, sv, x] ∧ WAt K H C a L p q ∧ Gw L p q ∧ Jv.Dv K H sv ds ∧ Jv.Dv K H x d ∧ few60 d ∧
  ((∃ n1, ds = .int 0 ∧ Jv.seqD d = some (n1.map .int) ∧ Jv.orderP p n1 ∧ ∀ r H', Same H H' → WAt K H' C r (rowP L n1) p q → Q (.ref r) H') ∨
   (∃ n1, ds = .int 1 ∧ Jv.seqD d = some (n1.map .int) ∧ Jv.orderP q n1 ∧ ∀ r H', Same H H' → WAt K H' C r (colP L n1) p q → Q (.ref r) H') ∨
   (Jv.wholeD ds (.int 0) (.int 1) = false ∧ ∀ H', Same H H' → E (.ref CS) none H') ∨
   (ds = .int 0 ∧ orderD p d = false ∧ ∀ e H', Same H H' → H' e = some (.xd [("side", .int 0)]) → E (.ref CL) (some e) H') ∨
   (ds = .int 1 ∧ orderD q d = false ∧ ∀ e H', Same H H' → H' e = some (.xd [("side", .int 1)]) → E (.ref CL) (some e) H'))
section
variable {P : Program} {w : World} {K : PySem.W.Frag} {mg : Str → Option Value} {base : Heap}
theorem WAt.sides {H : Hp} {a : Addr} {L : List (List Int)} {p q : Int} {T : Tx} (O : Ok K mg T) (h : WAt K H T.C_Weights a L p q) : SAt K H a p q := by
  obtain ⟨dx, w, s, h1, _, h3⟩ := h
  exact ⟨_, dx, _, s, h1, O.o_Weights, O.n_Weights_sides, rfl, h3⟩
theorem CAt.sides {H : Hp} {a : Addr} {l : Int} {W : PyData} {p q : Int} {T : Tx} (O : Ok K mg T) (h : CAt K H T.C_Costs a l W p q) : SAt K H a p q := by
  obtain ⟨dx, w, s, h1, _, h3⟩ := h
  exact ⟨_, dx, _, s, h1, O.o_Costs, O.n_Costs_sides, rfl, h3⟩
theorem ok_NotAlikeu_initu (T : Tx) (O : Ok K mg T) : FnOk P w K mg base CX0 1 T.f_NotAlikeu_initu T.d_NotAlikeu_initu ["self", "what"] (sp_BadX_init T.C_NotAlike "what") := by
  refine O.F_NotAlikeu_initu.ok sc_NotAlikeu_initu (fun vs H Q E h => by obtain ⟨_, _, rfl, _⟩ := h; rfl) (fun cdv A outer s H vs Q E hr h => ?_)
  obtain ⟨a, v, rfl, ha, q⟩ := h
  refine ⟨_, (pss_one (ps_ost (pv 0) (pv 1))), ?_⟩
  exact ⟨_, rfl, _, rfl, a, T.C_NotAlike, rfl, O.x_NotAlike.o, O.n_NotAlike_what, .inl ⟨ha, fun d hd ne => q d hd ne⟩⟩
theorem ok_Weightsu_equ (T : Tx) (O : Ok K mg T) : FnOk P w K mg base CX0 1 T.f_Weightsu_equ T.d_Weightsu_equ ["self", "other"] (sp_Weights_eq K T.C_Weights) := by
  refine O.F_Weightsu_equ.ok sc_Weightsu_equ (fun vs H Q E h => by obtain ⟨_, _, _, _, _, rfl, _⟩ := h; rfl) (fun cdv A outer s H vs Q E hr h => ?_)
  obtain ⟨a, b, L, p, q, rfl, ha, qq⟩ := h
  refine ⟨_, (pss_one (ps_ret (pe_and (pe_callB (r := rIsi K) call_isi (by rfl) O.z_isinstance (by decide +kernel) (pa_cons (pv 1) (pa_cons (pe_glob (v := .ref _) (by rfl) O.m_Weights rfl) pa_nil))) (pe_one (pe_cmpR (r := rEqD K) (op_eqD hr.units) (show PE _ _ (tFld K _ _) from pe_fld (pv 0) rfl) (show PE _ _ (tFld K _ _) from pe_fld (pv 1) rfl) (nomark _)))))), ?_⟩
  obtain ⟨dx, wv, tv, hca, hW, _⟩ := id ha
  walk_at "r"
  rcases qq with ⟨L2, p2, q2, hb, k⟩ | ⟨ys, hb, k⟩
  · obtain ⟨dx2, wv2, tv2, hcb, hW2, _⟩ := id hb
    refine ⟨_, _, _, _, true, rfl, .own T.C_Weights, .base (.ins hcb O.o_Weights O.i_Weights_ca O.i_Weights_cn O.i_Weights_ct O.i_Weights_cm), by simp [PySem.W.kitOne], ?_⟩
    walk_at "r"
    refine Jv.r_fld ?_
    walk_at "r"
    refine ⟨a, _, dx, _, _, rfl, hca, O.o_Weights, O.n_Weights_lines, rfl, ?_⟩
    walk_at "r"
    refine Jv.r_fld ?_
    walk_at "r"
    refine ⟨b, _, dx2, _, _, rfl, hcb, O.o_Weights, O.n_Weights_lines, rfl, ?_⟩
    walk_at "r"
    refine ⟨_, _, hW.dp, hW2.dp, shaped_linW _, shaped_linW _, ?_⟩
    rw [eqv_linW]
    exact k
  · refine ⟨_, _, _, _, false, rfl, .own T.C_Weights, Jv.tyT hb, O.i_Weights_kt, ?_⟩
    walk_at "r"
    exact k
theorem ok_Weights_weight_sum (T : Tx) (O : Ok K mg T) : FnOk P w K mg base CX0 1 T.f_Weights_weight_sum T.d_Weights_weight_sum ["self"] (sp_weight_sum K T.C_Weights) := by
  refine O.F_Weights_weight_sum.ok sc_Weights_weight_sum (fun vs H Q E h => by obtain ⟨_, _, _, _, rfl, _⟩ := h; rfl) (fun cdv A outer s H vs Q E hr h => ?_)
  obtain ⟨a, L, p, q, rfl, ha, hg, k⟩ := h
  refine ⟨_, (pss_one (ps_ret (pe_callB (r := Jv.rSumA K) (Jv.cr_sumA rfl) (by rfl) O.z_sum (by decide +kernel) (pa_cons (pe_lc (own := [("line", 1)]) (by rfl) sc_Weights_weight_sum.nd (Jv.piOr (show PI _ _ _ (iList K _) from pi_list (show PE _ _ (tFld K _ _) from pe_fld (pv 0) rfl)) (show PI _ _ _ (iTup K _) from pi_tup (show PE _ _ (tFld K _ _) from pe_fld (pv 0) rfl))) (blkOk_by (own := [("line", 1)]) (N := ["self", "line"]) (sc := defScope s_Weights_weight_sum) (scope := ({ kind := .function, names := [(".0", .local), ("line", .local), ("sum", .globalImplicit)], isGenerator := false, isCoroutine := false } : Scope)) (by decide +kernel)) (fun _ _ _ _ _ => (pg_name (i := 1) sc_Weights_weight_sum.nd rfl (Or.inl rfl))) (fun _ _ _ _ _ => pts_nil) (fun _ _ _ _ _ => (pe_callB (r := Jv.rSumA K) (Jv.cr_sumA rfl) (by rfl) O.z_sum (by decide +kernel) (pa_cons (pv 1) pa_nil)))) pa_nil)))), ?_⟩
  obtain ⟨dx, wv, tv, hca, hW, _⟩ := id ha
  obtain ⟨ws, skW, alW⟩ := hW.sk rfl
  have lws := alW.len
  rw [List.length_map] at lws
  have hp := hg.hp
  have hp6 := hg.p6
  walk_at "r"
  refine Jv.lcS3 (K := K) (N := []) (j := 1) (fun P hP => ?_) skW .nil ((L.map List.sum).map .int) (by rw [List.length_map, List.length_map]; omega) (by omega) (fun i v e D1 H6 hi hv he s6 hN1 hD1 PP hP => ?_) (fun D1 ys H6 s6 hD1 eD1 dv1 _ => ?_)
  · refine Jv.r_fld ?_
    walk_at "r"
    exact ⟨a, _, dx, _, _, rfl, hca, O.o_Weights, O.n_Weights_lines, rfl, hP⟩
  · obtain ⟨dl, c1, c2⟩ := alW.at hv
    rw [List.getElem?_map] at c1
    obtain ⟨line, c3, rfl⟩ := Option.map_eq_some_iff.mp c1
    have ee : e = .int line.sum := by
      rw [List.map_map, List.getElem?_map, c3] at he
      exact (Option.some.inj he).symm
    subst ee
    obtain ⟨us, skU, alU⟩ := (c2.same s6).sk rfl
    obtain rfl := Jv.dv_intsV alU
    walk_at "r"
    exact ⟨_, _, rfl, skU, hP _ _ (Same.refl _) (.int _)⟩
  · walk_at "r"
    rw [Jv.hide_nil] at dv1
    obtain rfl := Jv.dv_intsV dv1
    exact ⟨_, _, rfl, ⟨D1, rfl, .inl (Jv.sqL_at eD1)⟩, k _ s6⟩
theorem ok_check_weights (T : Tx) (O : Ok K mg T) : FnOk P w K mg base (L2.CX P w) 3 T.f_check_weights T.d_check_weights ["costs", "weights"] (sp_check_weights K T.C_NotAlike) := by
  refine O.F_check_weights.okX sc_check_weights (fun vs H Q E h => by obtain ⟨_, _, _, _, _, _, rfl, _⟩ := h; rfl) (fun cdv A outer s H vs Q E hr h => ?_)
  obtain ⟨a, b, p, q, p2, q2, rfl, ha, hb, k1, k2⟩ := h
  refine ⟨_, (pss_cons (ps_if (pt_cmpR (r := rNeD K) (op_neD hr.units) (show PE _ _ (tFld K _ _) from pe_fld (pv 1) rfl) (show PE _ _ (tFld K _ _) from pe_fld (pv 0) rfl) (nomark _)) (pss_one (ps_raise rfl (takes_of rfl rfl rfl rfl) (pmk_oex O.x_NotAlike.o O.x_NotAlike.n O.x_NotAlike.y (ok_NotAlikeu_initu T O) (hr.mono (by decide)) O.b_NotAlikeu_initu .nil pass0 (by rfl) O.m_NotAlike (pa_cons pe_str pa_nil)))) pss_nil)
  (pss_one (ps_ret (pv 1)))), ?_⟩
  obtain ⟨C, dx, fs, sa, a1, a2, a3, a4, a5⟩ := ha
  obtain ⟨D, dy, gs, sb, b1, b2, b3, b4, b5⟩ := hb
  walk_at "r"
  refine Jv.r_fld ?_
  walk_at "r"
  refine ⟨b, _, dy, _, _, rfl, b1, b2, b3, b4, ?_⟩
  walk_at "r"
  refine Jv.r_fld ?_
  walk_at "r"
  refine ⟨a, _, dx, _, _, rfl, a1, a2, a3, a4, ?_⟩
  walk_at "r"
  refine ⟨_, _, b5.dp, a5.dp, shaped_ii _ _, shaped_ii _ _, ?_⟩
  rw [Jv.eqv_i2]
  by_cases h : p2 = p ∧ q2 = q
  · rw [decide_eq_true h]
    walk_at "r"
    exact k1 h
  · rw [decide_eq_false h]
    walk_at "r"
    exact raiseW (k2 h)
theorem ok_Weights_even (T : Tx) (O : Ok K mg T) : FnOk P w K mg base (L2.CX P w) 5 T.f_Weights_even T.d_Weights_even ["sides"] (sp_even K T.C_Weights T.C_BadWeights) := by
  refine O.F_Weights_even.okX sc_Weights_even (fun vs H Q E h => by obtain ⟨_, _, rfl, _⟩ := h; rfl) (fun cdv A outer s H vs Q E hr h => ?_)
  obtain ⟨x, d, rfl, hx, k1, k2⟩ := h
  refine ⟨_, (pss_cons (ps_if (pt_not (pt_val (pe_call (ok_are_sides T O) (hr.mono (by decide)) (by rfl) O.m_are_sides O.F_are_sides.kp O.b_are_sides .nil pass0 (pa_cons (pv 0) pa_nil)))) (pss_one (ps_raise rfl (takes_of rfl rfl rfl rfl) (pmk_oex O.x_BadWeights.o O.x_BadWeights.n O.x_BadWeights.y (ok_BadWeightsu_initu T O) (hr.mono (by decide)) O.b_BadWeightsu_initu .nil pass0 (by rfl) O.m_BadWeights (pa_cons pe_str pa_nil)))) pss_nil)
  (pss_one (ps_ret (Jv.pe_makeX O.k_Weights (ok_Weightsu_initu T O) (hr.mono (by decide)) (by rfl) O.m_Weights O.b_Weightsu_initu .nil (fun σ => passAt (takes_of rfl rfl rfl rfl) σ) (pa_cons (pe_op op_rep (pe_lst (pa_cons (pe_op op_rep (pe_lst (pa_cons pe_int pa_nil)) (pe_ix (r := rIx K) ix_seq (pv 0) (pe_glob (v := .int (1)) (by rfl) O.c_WEST ⟨_, rfl⟩) (fun _ _ => rfl))) pa_nil)) (pe_ix (r := rIx K) ix_seq (pv 0) (pe_glob (v := .int (0)) (by rfl) O.c_EAST ⟨_, rfl⟩) (fun _ _ => rfl))) pa_nil))))), ?_⟩
  walk_at "r"
  refine ⟨_, _, rfl, hx, fun H1 s1 => ?_⟩
  walk_at "r"
  cases es : Jv.sidesD d with
  | false =>
    walk_at "r"
    exact raiseW fun e H' s' => k1 es e H' (s1.trans s')
  | true =>
    walk_at "r"
    obtain ⟨p, q, ed, hp, hq, hpq⟩ := Jv.sidesD_some es
    obtain ⟨xs, sk, al⟩ := (hx.same s1).sk ed
    obtain rfl := Jv.dv_intsV (ns := [(p : Int), (q : Int)]) al
    refine Jv.r_makeX ?_
    walk_at "r"
    intro l1 hl1
    have n1 := Jv.same_new (u := .lst [V.int 1]) hl1
    walk_at "r"
    refine (sk.same n1).ix (v := .int q) rfl ?_
    walk_at "r"
    refine ⟨l1, _, [.int 1], rfl, rfl, upd_same, by omega, by omega, Jv.small_of (by simp; omega), fun l2 hl2 => ?_⟩
    have n2 := Jv.same_new (u := .lst ((List.replicate ((q : Int)).toNat [V.int 1]).flatten)) hl2
    walk_at "r"
    intro l3 hl3
    have n3 := Jv.same_new (u := .lst [V.ref l2]) hl3
    walk_at "r"
    refine (sk.same ((n1.trans n2).trans n3)).ix (v := .int p) rfl ?_
    walk_at "r"
    refine ⟨l3, _, [.ref l2], rfl, rfl, upd_same, by omega, by omega, Jv.small_of (by simp; omega), fun l4 hl4 => ?_⟩
    have n4 := Jv.same_new (u := .lst ((List.replicate ((p : Int)).toNat [V.ref l2]).flatten)) hl4
    have e2 := n4 _ _ (n3 _ _ upd_same)
    walk_at "r"
    have sAll := s1.trans (((n1.trans n2).trans n3).trans n4)
    have hL : Gw (List.replicate p (List.replicate q 1)) p q := ⟨List.length_replicate, fun line h => by rw [List.eq_of_mem_replicate h, List.length_replicate], hp.1, hp.2, hq.1, hq.2, hpq, fun line h n hn => by
      rw [List.eq_of_mem_replicate h] at hn
      rw [List.eq_of_mem_replicate hn]; omega⟩
    refine mkW' (dw := linLw (List.replicate p (List.replicate q 1))) ?_ (hL.good lineR_LL) fun r H' s' _ ga => k2 p q ed es r H' (sAll.trans s') ga
    unfold linLw
    rw [List.map_replicate]
    have key : ∀ G : Hp, G l2 = some (.lst (List.replicate ((q : Int)).toNat [V.int 1]).flatten) → Jv.DvAll K G (List.replicate ((p : Int)).toNat [V.ref l2]).flatten (List.replicate p (.list ((List.replicate q (1 : Int)).map .int))) := fun G hG => by
      rw [Jv.flat_one', Int.toNat_natCast] at hG ⊢
      refine Jv.DvAll.rep (.lst hG ?_) p
      rw [List.map_replicate]
      exact Jv.DvAll.rep (.int 1) q
    exact .lst upd_same (key _ e2)
theorem ok_Weights_times (T : Tx) (O : Ok K mg T) : FnOk P w K mg base (L2.CX P w) 5 T.f_Weights_times T.d_Weights_times ["self", "size"] (sp_times K T.C_Weights T.C_BadWeights) := by
  refine O.F_Weights_times.okX sc_Weights_times (fun vs H Q E h => by obtain ⟨_, _, _, _, _, _, rfl, _⟩ := h; rfl) (fun cdv A outer s H vs Q E hr h => ?_)
  obtain ⟨a, x, d, L, p, q, rfl, hc, hw, hx, k1, k2⟩ := h
  obtain ⟨dx, wv, tv, hca, hW, hS⟩ := id hc
  refine ⟨_, (pss_cons (ps_if (pt_not (pt_val (pe_call (ok_is_whole T O) (hr.mono (by decide)) (by rfl) O.m_is_whole O.F_is_whole.kp O.b_is_whole .nil pass0 (pa_cons (pv 1) (pa_cons pe_int (pa_cons (pe_glob (v := .int (1000)) (by rfl) O.c_TIMES_MOST ⟨_, rfl⟩) pa_nil)))))) (pss_one (ps_raise rfl (takes_of rfl rfl rfl rfl) (pmk_oex O.x_BadWeights.o O.x_BadWeights.n O.x_BadWeights.y (ok_BadWeightsu_initu T O) (hr.mono (by decide)) O.b_BadWeightsu_initu .nil pass0 (by rfl) O.m_BadWeights (pa_cons pe_str pa_nil)))) pss_nil)
  (pss_one (ps_ret (Jv.pe_makeX O.k_Weights (ok_Weightsu_initu T O) (hr.mono (by decide)) (by rfl) O.m_Weights O.b_Weightsu_initu .nil (fun σ => passAt (takes_of rfl rfl rfl rfl) σ) (pa_cons (pe_lc (own := [("line", 2)]) (by rfl) sc_Weights_times.nd (Jv.piOr (show PI _ _ _ (iList K _) from pi_list (show PE _ _ (tFld K _ _) from pe_fld (pv 0) rfl)) (show PI _ _ _ (iTup K _) from pi_tup (show PE _ _ (tFld K _ _) from pe_fld (pv 0) rfl))) (blkOk_by (own := [("line", 2)]) (N := ["self", "size", "line", "weight"]) (sc := defScope s_Weights_times) (scope := ({ kind := .function, names := [(".0", .local), ("line", .local), ("size", .free)], isGenerator := false, isCoroutine := false } : Scope)) (by decide +kernel)) (fun _ _ _ _ _ => (pg_name (i := 2) sc_Weights_times.nd rfl (Or.inl rfl))) (fun _ _ _ _ _ => pts_nil) (fun _ _ _ _ _ => (pe_lc (own := [("weight", 3)]) (by rfl) sc_Weights_times.nd (Jv.piOr (show PI _ _ _ (iList K _) from pi_list (pv 2)) (show PI _ _ _ (iTup K _) from pi_tup (pv 2))) (blkOk_by (own := [("weight", 3)]) (N := ["self", "size", "line", "weight"]) (sc := ({ kind := .function, names := [(".0", .local), ("line", .local), ("size", .cell)], isGenerator := false, isCoroutine := false } : Scope)) (scope := ({ kind := .function, names := [(".0", .local), ("weight", .local), ("size", .free)], isGenerator := false, isCoroutine := false } : Scope)) (by decide +kernel)) (fun _ _ _ _ _ => (pg_name (i := 3) sc_Weights_times.nd rfl (Or.inl rfl))) (fun _ _ _ _ _ => pts_nil) (fun _ _ _ _ _ => (pe_op op_mul (pv 3) (pv 1)))))) pa_nil))))), ?_⟩
  walk_at "r"
  refine ⟨_, _, _, _, rfl, hx, .inr ⟨_, rfl⟩, .inr ⟨_, rfl⟩, ?_⟩
  rw [hx.whole]
  cases ew : Jv.wholeD d (.int 0) (.int 1000) with
  | false =>
    walk_at "r"
    exact raiseW (k1 ew)
  | true =>
    obtain ⟨b, rfl, b0, b1⟩ := Jv.wholeD_int ew
    obtain ⟨q1, q2⟩ := k2 b rfl b0 b1
    cases hx
    walk_at "r"
    refine Jv.r_makeX ?_
    walk_at "r"
    obtain ⟨ws, skW, alW⟩ := hW.sk rfl
    have lws := alW.len
    rw [List.length_map] at lws
    have hp6 := hw.p6
    have hq6 := hw.q6
    have hpL := hw.hp
    refine Jv.lcS3 (K := K) (N := []) (j := 2) (fun P hP => ?_) skW .nil ((mulW b L).map fun line => .list (line.map .int)) (by rw [List.length_map]; unfold mulW; rw [List.length_map]; omega) (by omega) (fun i v e D1 H6 hi hv he s6 hN1 hD1 PP hP => ?_) (fun D1 ys H6 s6 hD1 eD1 dv1 _ => ?_)
    · refine Jv.r_fld ?_
      walk_at "r"
      exact ⟨a, _, dx, _, _, rfl, hca, O.o_Weights, O.n_Weights_lines, rfl, hP⟩
    · obtain ⟨dl, c1, c2⟩ := alW.at hv
      rw [List.getElem?_map] at c1
      obtain ⟨line, c3, rfl⟩ := Option.map_eq_some_iff.mp c1
      have hline := List.mem_of_getElem? c3
      have hlq := hw.hq line hline
      have ee : e = .list ((line.map (· * b)).map .int) := by
        unfold mulW at he
        rw [List.map_map, List.getElem?_map, c3] at he
        exact (Option.some.inj he).symm
      subst ee
      obtain ⟨us, skU, alU⟩ := (c2.same s6).sk rfl
      have lus := alU.len
      rw [List.length_map] at lus
      obtain rfl := Jv.dv_intsV alU
      walk_at "r"
      refine Jv.lcS2 (K := K) (N := [D1]) (j := 3) (i := 2) rfl skU hN1 ((line.map (· * b)).map .int) (by simp) (by rw [List.length_map]; omega) (fun i3 z e3 D3 H8 hi3 hz he3 s8 hN3 hD3 PP3 hP3 => ?_) (fun D3 ys3 H8 s8 hD3 eD3 dv3 _ => ?_)
      · obtain ⟨n, hn, rfl⟩ := Jv.map_at hz
        have ee3 : e3 = .int (n * b) := by
          rw [List.map_map, List.getElem?_map, hn] at he3
          exact (Option.some.inj he3).symm
        subst ee3
        walk_at "r"
        exact hP3 _ _ (Same.refl _) (.int _)
      · exact hP _ _ s8 (.lst (Jv.hide_at (by
          intro m
          obtain ⟨o, ho⟩ := hN1 D3 m
          rw [hD3] at ho; cases ho) eD3) dv3)
    · walk_at "r"
      rw [Jv.hide_nil] at dv1
      refine mkW (.lst eD1 dv1) (few_line (lineR_LL (L := mulW b L)) (by unfold mulW; rw [List.length_map]; omega) (fun line hm => ?_)) (fun f hf d H' s' hd => q1 f hf d H' (s6.trans s') hd) fun L' p' q' g r H' s' _ ga => ?_
      · obtain ⟨l0, h2, rfl⟩ := List.mem_map.mp hm
        rw [List.length_map, hw.hq l0 h2]; omega
      · have e1 : mulW b L = L' := by rw [← (lineR_LL (L := mulW b L)).rows]; exact g.dw.rows
        subst e1
        exact q2 _ _ g r H' (s6.trans s') ga
theorem ok_Weights_plus (T : Tx) (O : Ok K mg T) : FnOk P w K mg base (L2.CX P w) 5 T.f_Weights_plus T.d_Weights_plus ["self", "other"] (sp_plus K T.C_Weights T.C_BadWeights T.C_NotAlike) := by
  refine O.F_Weights_plus.okX sc_Weights_plus (fun vs H Q E h => by obtain ⟨_, _, _, _, _, _, _, _, rfl, _⟩ := h; rfl) (fun cdv A outer s H vs Q E hr h => ?_)
  obtain ⟨a, b, L, M, p, q, p2, q2, rfl, ha, hw, hb, hm, k1, k2⟩ := h
  obtain ⟨dx, wv, tv, hca, hW, hS⟩ := id ha
  obtain ⟨dy, wu, tu, hcb, hU, hR⟩ := id hb
  refine ⟨_, (pss_cons (ps_expr (pe_callS (ok_check_weights T O) (hr.mono (by decide)) (by rfl) O.m_check_weights O.F_check_weights.kp O.b_check_weights (fun σ => passAt (takes_of rfl rfl rfl rfl) σ) (pa_cons (pv 0) (pa_cons (pv 1) pa_nil))))
  (pss_cons (ps_set (i := 2) sc_Weights_plus.nd rfl (Or.inl rfl) (pe_lst pa_nil))
  (pss_cons (ps_for (passes_of rfl) rfl (show PI _ _ _ (Jv.iZipX K _) from Jv.pi_zipX (by rfl) O.z_zip (pa_cons (show PE _ _ (tFld K _ _) from pe_fld (pv 0) rfl) (pa_cons (show PE _ _ (tFld K _ _) from pe_fld (pv 1) rfl) pa_nil))) (pg_tup rfl (pgs_cons (pg_name (i := 3) sc_Weights_plus.nd rfl (Or.inl rfl)) (pgs_cons (pg_name (i := 4) sc_Weights_plus.nd rfl (Or.inl rfl)) pgs_nil))) (pss_one (ps_expr (show PE _ _ (tBM K _ _ _ _) from pe_bm PySem.F.plainAttrs_list PySem.F.slot_list_append PySem.F.type_list_append mt_append (pv 2) (pa_cons (pe_lc (own := [("one", 5), ("more", 6)]) (by rfl) sc_Weights_plus.nd (show PI _ _ _ (Jv.iZipX K _) from Jv.pi_zipX (by rfl) O.z_zip (pa_cons (pv 3) (pa_cons (pv 4) pa_nil))) (blkOk_by (own := [("one", 5), ("more", 6)]) (N := ["self", "other", "sums", "line", "others", "one", "more"]) (sc := defScope s_Weights_plus) (scope := ({ kind := .function, names := [(".0", .local), ("one", .local), ("more", .local)], isGenerator := false, isCoroutine := false } : Scope)) (by decide +kernel)) (fun _ _ _ _ _ => (show PG _ _ (gTup K 2 _) from pg_tup rfl (pgs_cons (pg_name (i := 5) sc_Weights_plus.nd rfl (Or.inl rfl) (Or.inr rfl)) (pgs_cons (pg_name (i := 6) sc_Weights_plus.nd rfl (Or.inl rfl) (Or.inr rfl)) pgs_nil)))) (fun _ _ _ _ _ => pts_nil) (fun _ _ _ _ _ => (pe_op op_add (pv 5) (pv 6)))) pa_nil)))))
  (pss_one (ps_ret (Jv.pe_makeX O.k_Weights (ok_Weightsu_initu T O) (hr.mono (by decide)) (by rfl) O.m_Weights O.b_Weightsu_initu .nil (fun σ => passAt (takes_of rfl rfl rfl rfl) σ) (pa_cons (pv 2) pa_nil))))))), ?_⟩
  walk_at "r"
  refine ⟨a, b, _, _, _, _, rfl, ha.sides O, hb.sides O, fun h => ?_, fun h e H' s' he => k1 (fun z => h ⟨by rw [z.1], by rw [z.2]⟩) e H' s' he⟩
  obtain ⟨r1, r2⟩ := k2 ⟨by exact_mod_cast h.1, by exact_mod_cast h.2⟩
  have ep : p2 = p := by exact_mod_cast h.1
  have eq : q2 = q := by exact_mod_cast h.2
  subst ep eq
  walk_at "r"
  intro S hS0
  have s0 := Jv.same_new (u := .lst []) hS0
  walk_at "r"
  obtain ⟨A, ws, rfl, hA, alA⟩ := Jv.tup_of hW
  obtain ⟨B, us, rfl, hB, alB⟩ := Jv.tup_of hU
  have lA := alA.len
  have lB := alB.len
  rw [List.length_map] at lA lB
  have hLp := hw.hp
  have hMp := hm.hp
  have p6 := hw.p6
  have q6 := hw.q6
  have lad : (addW L M).length = p2 := by unfold addW; rw [List.length_zipWith]; omega
  refine Jv.forZT (n := p2) (xs := ws) (ys := us) (fun P hP => ?_) (fun j σ H1 => ∃ y3 y4 y5 y6 xs, σ = [some (.ref a), some (.ref b), some (.ref S), y3, y4, y5, y6] ∧ Same H H1 ∧ H1 S = some (.lst xs) ∧ Jv.DvAll K (Jv.hide [S] H1) xs (((addW L M).take j).map fun line => .list (line.map .int)) ∧ xs.length = j)
    ⟨_, _, _, _, [], rfl, s0, upd_same, .nil, rfl⟩ (by omega) (fun i σ H1 ⟨_, _, _, _, _, _, s, _⟩ => ⟨Jv.Same.sqT s hA, Jv.Same.sqT s hB⟩) ?_ ?_
  · refine Jv.r_fld ?_
    walk_at "r"
    refine ⟨a, _, dx, _, _, rfl, s0 _ _ hca, O.o_Weights, O.n_Weights_lines, rfl, ?_⟩
    walk_at "r"
    refine Jv.r_fld ?_
    walk_at "r"
    refine ⟨b, _, dy, _, _, rfl, s0 _ _ hcb, O.o_Weights, O.n_Weights_lines, rfl, ?_⟩
    walk_at "r"
    exact hP
  · rintro j x y T' σ1 H1 hx hy hT ⟨y3, y4, y5, y6, xs, rfl, s1, eS, al, ln⟩
    have hj := (List.getElem?_eq_some_iff.mp hx).1
    have nT := Jv.same_new (u := .tup [x, y]) hT
    refine ⟨T', _, rfl, Jv.sqT_at upd_same, rfl, _, _, rfl, _, _, rfl, rfl, ?_⟩
    obtain ⟨d1, c1, c2⟩ := alA.at hx
    obtain ⟨d2, c3, c4⟩ := alB.at hy
    rw [List.getElem?_map] at c1 c3
    obtain ⟨line, c5, rfl⟩ := Option.map_eq_some_iff.mp c1
    obtain ⟨more, c6, rfl⟩ := Option.map_eq_some_iff.mp c3
    have l1 := hw.hq line (List.mem_of_getElem? c5)
    have l2 := hm.hq more (List.mem_of_getElem? c6)
    have sT := s1.trans nT
    have eS' := nT _ _ eS
    have al' := al.same (Jv.hide_same nT)
    generalize upd H1 T' (.tup [x, y]) = H2 at sT eS' al' ⊢
    obtain ⟨X, xl, rfl, hX, aX⟩ := Jv.tup_of (c2.same sT)
    obtain ⟨Y, yl, rfl, hY, aY⟩ := Jv.tup_of (c4.same sT)
    obtain rfl := Jv.dv_intsV aX
    obtain rfl := Jv.dv_intsV aY
    have hN : Jv.Held [S] H2 := fun b m => by rw [List.mem_singleton.mp m]; exact ⟨_, eS'⟩
    walk_at "r"
    refine Jv.lcZT (N := [S]) (fun P hP => ?_) hX hY hN ((List.zipWith (· + ·) line more).map .int) (by rw [List.length_map, List.length_zipWith, List.length_map, List.length_map]) (by rw [List.length_map, List.length_map]; omega) (fun _ _ => rfl) (fun i x y e D H3 hx hy he s3 hN3 hD P hP => ?_) (fun D zs H3 s3 hD eD dv _ => ?_)
    · walk_at "r"
      exact hP
    · obtain ⟨m, hm1, rfl⟩ := Jv.map_at hx
      obtain ⟨n, hn1, rfl⟩ := Jv.map_at hy
      have ee : e = .int (m + n) := by
        rw [List.getElem?_map, List.getElem?_zipWith, hm1, hn1] at he
        exact (Option.some.inj he).symm
      subst ee
      walk_at "r"
      exact hP _ _ (Same.refl _) (.int _)
    · walk_at "r"
      refine Jv.r_app (s3 _ _ eS') (by omega) ?_
      have nD : D ≠ S := fun z => by rw [z, eS'] at hD; cases hD
      refine ⟨_, _, _, _, xs ++ [.ref D], rfl, ?_, upd_same, ?_, by rw [List.length_append, ln]; rfl⟩
      · intro c o hc
        rw [upd_ne (ne_of_none hc hS0)]
        exact s3 _ _ (sT _ _ hc)
      · rw [Jv.hide_upd]
        have c7 : (addW L M)[j]? = some (List.zipWith (· + ·) line more) := by unfold addW; rw [List.getElem?_zipWith, c5, c6]
        rw [Jv.take_more c7, List.map_append]
        exact Jv.DvAll.snoc (.lst (Jv.hide_at (fun m => nD (List.mem_singleton.mp m)) eD) dv) (al'.same (Jv.hide_same s3))
  · rintro σ1 H1 ⟨y3, y4, y5, y6, xs, rfl, s1, eS, al, ln⟩
    rw [List.take_of_length_le (by omega)] at al
    walk_at "r"
    refine Jv.r_makeX ?_
    walk_at "r"
    refine mkW (dw := linLw (addW L M)) (.lst eS (al.same Jv.hide_le)) (few_line (lineR_LL (L := addW L M)) (by omega) (fun line hl => ?_)) (fun f hf d H' s' hd => r1 f hf d H' (s1.trans s') hd) fun L' p' q' g r H' s' _ ga => ?_
    · obtain ⟨i, hi⟩ := List.mem_iff_getElem?.mp hl
      unfold addW at hi
      rw [List.getElem?_zipWith] at hi
      cases c5 : L[i]? with
      | none => rw [c5] at hi; cases hi
      | some l0 =>
        cases c6 : M[i]? with
        | none => rw [c5, c6] at hi; cases hi
        | some m0 =>
          rw [c5, c6] at hi
          obtain rfl := Option.some.inj hi
          have := hw.hq l0 (List.mem_of_getElem? c5)
          rw [List.length_zipWith]; omega
    · have e1 : addW L M = L' := by rw [← (lineR_LL (L := addW L M)).rows]; exact g.dw.rows
      subst e1
      exact r2 _ _ g r H' (s1.trans s') ga
theorem ok_renumbered_lines (T : Tx) (O : Ok K mg T) : FnOk P w K mg base CX0 2 T.f_renumbered_lines T.d_renumbered_lines ["lines", "side", "order"] (sp_renumbered_lines K) := by
  refine O.F_renumbered_lines.ok sc_renumbered_lines (fun vs H Q E h => by obtain ⟨_, _, _, _, _, _, _, rfl, _⟩ := h; rfl) (fun cdv A outer s H vs Q E hr h => ?_)
  obtain ⟨x, sd, y, L, n1, p, q, rfl, hw, hx, hy, qq⟩ := h
  refine ⟨_, (pss_cons (ps_if (pt_cmpR op_eq (pv 1) (pe_glob (v := .int (0)) (by rfl) O.c_EAST ⟨_, rfl⟩) (nomark _)) (pss_one (ps_ret (pe_lc (own := [("kind", 4)]) (by rfl) sc_renumbered_lines.nd (Jv.piOr (show PI _ _ _ (iList K _) from pi_list (pv 2)) (show PI _ _ _ (iTup K _) from pi_tup (pv 2))) (blkOk_by (own := [("kind", 4)]) (N := ["lines", "side", "order", "line", "kind"]) (sc := defScope s_renumbered_lines) (scope := ({ kind := .function, names := [(".0", .local), ("kind", .local), ("lines", .free)], isGenerator := false, isCoroutine := false } : Scope)) (by decide +kernel)) (fun _ _ _ _ _ => (pg_name (i := 4) sc_renumbered_lines.nd rfl (Or.inl rfl))) (fun _ _ _ _ _ => pts_nil) (fun _ _ _ _ _ => (pe_ix (r := rIx K) ix_seq (pv 0) (pv 4) (fun _ _ => rfl)))))) pss_nil)
  (pss_one (ps_ret (pe_lc (own := [("line", 3)]) (by rfl) sc_renumbered_lines.nd (Jv.piOr (show PI _ _ _ (iList K _) from pi_list (pv 0)) (show PI _ _ _ (iTup K _) from pi_tup (pv 0))) (blkOk_by (own := [("line", 3)]) (N := ["lines", "side", "order", "line", "kind"]) (sc := defScope s_renumbered_lines) (scope := ({ kind := .function, names := [(".0", .local), ("line", .cell), ("order", .free)], isGenerator := false, isCoroutine := false } : Scope)) (by decide +kernel)) (fun _ _ _ _ _ => (pg_name (i := 3) sc_renumbered_lines.nd rfl (Or.inr rfl))) (fun _ _ _ _ _ => pts_nil) (fun _ _ _ _ _ => (pe_lc (own := [("kind", 4)]) (by rfl) sc_renumbered_lines.nd (Jv.piOr (show PI _ _ _ (iList K _) from pi_list (pv 2)) (show PI _ _ _ (iTup K _) from pi_tup (pv 2))) (blkOk_by (own := [("kind", 4)]) (N := ["lines", "side", "order", "line", "kind"]) (sc := ({ kind := .function, names := [(".0", .local), ("line", .cell), ("order", .cell)], isGenerator := false, isCoroutine := false } : Scope)) (scope := ({ kind := .function, names := [(".0", .local), ("kind", .local), ("line", .free)], isGenerator := false, isCoroutine := false } : Scope)) (by decide +kernel)) (fun _ _ _ _ _ => (pg_name (i := 4) sc_renumbered_lines.nd rfl (Or.inl rfl))) (fun _ _ _ _ _ => pts_nil) (fun _ _ _ _ _ => (pe_ix (r := rIx K) ix_seq (pv 3) (pv 4) (fun _ _ => rfl))))))))), ?_⟩
  have hp6 := hw.p6
  have hq6 := hw.q6
  have hpL := hw.hp
  obtain ⟨ws, skW, alW⟩ := hx.sk rfl
  have lws := alW.len
  rw [List.length_map] at lws
  rcases qq with ⟨rfl, h1, k⟩ | ⟨rfl, h1, k⟩
  · have hl1 := order_len h1
    walk_at "r"
    refine Jv.lcS2 (K := K) (N := []) (j := 4) (i := 2) rfl hy .nil ((rowP L n1).map rowW) (by rw [List.length_map, List.length_map]; unfold rowP; rw [List.length_map]) (by rw [List.length_map]; omega) (fun i v e D1 H6 hi hv he s6 hN1 hD1 PP hP => ?_) (fun D1 ys H6 s6 hD1 eD1 dv1 _ => ?_)
    · obtain ⟨z, hz, rfl⟩ := Jv.map_at hv
      have hzb := h1.1 z (List.mem_of_getElem? hz)
      have hzL : z.toNat < L.length := by omega
      have ee : e = rowW L[z.toNat] := by
        unfold rowP at he
        rw [List.map_map, List.getElem?_map, hz] at he
        have := (Option.some.inj he).symm
        rw [this]
        show rowW ((L[z.toNat]?).getD []) = _
        rw [List.getElem?_eq_getElem hzL]; rfl
      subst ee
      obtain ⟨wv1, c1, c2⟩ := alW.of (i := z.toNat) (d := rowW L[z.toNat]) (by rw [List.getElem?_map, List.getElem?_eq_getElem hzL]; rfl)
      walk_at "r"
      refine (skW.same s6).ix (Jv.at_i (by omega) c1) ?_
      refine hP _ _ (Same.refl _) ?_
      have c3 : Jv.Dv K (Jv.hide [] H) wv1 (rowW L[z.toNat]) := by rw [Jv.hide_nil]; exact c2
      exact c3.same (Jv.hide_more s6 hD1)
    · walk_at "r"
      rw [Jv.hide_nil] at dv1
      exact k _ _ s6 (.lst eD1 dv1)
  · have hl1 := order_len h1
    walk_at "r"
    refine Jv.lcS2 (K := K) (N := []) (j := 3) (i := 0) rfl skW .nil ((colP L n1).map fun line => .list (line.map .int)) (by rw [List.length_map]; unfold colP; rw [List.length_map]; omega) (by omega) (fun i v e D1 H6 hi hv he s6 hN1 hD1 PP hP => ?_) (fun D1 ys H6 s6 hD1 eD1 dv1 _ => ?_)
    · obtain ⟨dl, c1, c2⟩ := alW.at hv
      rw [List.getElem?_map] at c1
      obtain ⟨line, c3, rfl⟩ := Option.map_eq_some_iff.mp c1
      have hline := List.mem_of_getElem? c3
      have hlq := hw.hq line hline
      have ee : e = .list ((n1.map fun w => (line[w.toNat]?).getD 0).map .int) := by
        unfold colP at he
        rw [List.map_map, List.getElem?_map, c3] at he
        exact (Option.some.inj he).symm
      subst ee
      obtain ⟨us, skU, alU⟩ := (c2.same s6).sk rfl
      obtain rfl := Jv.dv_intsV alU
      walk_at "r"
      refine Jv.lcS2 (K := K) (N := [D1]) (j := 4) (i := 2) rfl (hy.same s6) hN1 ((n1.map fun w => (line[w.toNat]?).getD 0).map .int) (by rw [List.length_map, List.length_map, List.length_map]) (by rw [List.length_map]; omega) (fun i2 u e2' D2 H7 hi2 hu he2 s7 hN2 hD2 PP2 hP2 => ?_) (fun D2 ys2 H7 s7 hD2 eD2 dv2 _ => ?_)
      · obtain ⟨y, hy2, rfl⟩ := Jv.map_at hu
        have hyb := h1.1 y (List.mem_of_getElem? hy2)
        have hyL : y.toNat < line.length := by omega
        have ee2 : e2' = .int line[y.toNat] := by
          rw [List.map_map, List.getElem?_map, hy2] at he2
          have := (Option.some.inj he2).symm
          rw [this]
          show PyData.int ((line[y.toNat]?).getD 0) = _
          rw [List.getElem?_eq_getElem hyL]; rfl
        subst ee2
        walk_at "r"
        refine (skU.same s7).ix (v := .int line[y.toNat]) (Jv.at_i (by omega) (by rw [List.getElem?_map, List.getElem?_eq_getElem hyL]; rfl)) ?_
        exact hP2 _ _ (Same.refl _) (.int _)
      · exact hP _ _ s7 (.lst (Jv.hide_at (by
          intro m
          obtain ⟨o, ho⟩ := hN1 D2 m
          rw [hD2] at ho; cases ho) eD2) dv2)
    · walk_at "r"
      rw [Jv.hide_nil] at dv1
      exact k _ _ s6 (.lst eD1 dv1)
theorem ok_Weights_renumbered (T : Tx) (O : Ok K mg T) : FnOk P w K mg base (L2.CX P w) 5 T.f_Weights_renumbered T.d_Weights_renumbered ["self", "side", "order"] (sp_renumbered K T.C_Weights T.C_BadSide T.C_BadLot) := by
  refine O.F_Weights_renumbered.okX sc_Weights_renumbered (fun vs H Q E h => by obtain ⟨_, _, _, _, _, _, _, _, rfl, _⟩ := h; rfl) (fun cdv A outer s H vs Q E hr h => ?_)
  obtain ⟨a, sv, x, L, p, q, ds, d, rfl, hg, hw, hs, hx, f1, qq⟩ := h
  obtain ⟨dx, wv, tv, hga, hW, hS⟩ := id hg
  refine ⟨_, (pss_cons (ps_set (i := 3) sc_Weights_renumbered.nd rfl (Or.inl rfl) (pe_callS (ok_check_side_order T O) (hr.mono (by decide)) (by rfl) O.m_check_side_order O.F_check_side_order.kp O.b_check_side_order (fun σ => passAt (takes_of rfl rfl rfl rfl) σ) (pa_cons (pv 2) (pa_cons (pe_ix (r := rIx K) ix_seq (show PE _ _ (tFld K _ _) from pe_fld (pv 0) rfl) (pe_callS (ok_check_side T O) (hr.mono (by decide)) (by rfl) O.m_check_side O.F_check_side.kp O.b_check_side (fun σ => passAt (takes_of rfl rfl rfl rfl) σ) (pa_cons (pv 1) pa_nil)) (fun _ _ => rfl)) (pa_cons (pv 1) pa_nil)))))
  (pss_one (ps_ret (Jv.pe_makeX O.k_Weights (ok_Weightsu_initu T O) (hr.mono (by decide)) (by rfl) O.m_Weights O.b_Weightsu_initu .nil (fun σ => passAt (takes_of rfl rfl rfl rfl) σ) (pa_cons (pe_call (ok_renumbered_lines T O) (hr.mono (by decide)) (by rfl) O.m_renumbered_lines O.F_renumbered_lines.kp O.b_renumbered_lines .nil pass0 (pa_cons (show PE _ _ (tFld K _ _) from pe_fld (pv 0) rfl) (pa_cons (pv 1) (pa_cons (pv 3) pa_nil)))) pa_nil))))), ?_⟩
  walk_at "r"
  refine Jv.r_fld ?_
  walk_at "r"
  refine ⟨a, _, dx, _, _, rfl, hga, O.o_Weights, O.n_Weights_sides, rfl, ?_⟩
  walk_at "r"
  obtain ⟨ss, skS, alS⟩ := hS.sk rfl
  obtain rfl := Jv.dv_intsV (ns := [(p : Int), (q : Int)]) alS
  have hp6 := hw.p6
  have hq6 := hw.q6
  refine ⟨_, _, rfl, hs, fun ew => ?_, fun ew => ?_⟩
  · obtain ⟨s0, rfl, b0, b1⟩ := Jv.wholeD_int ew
    cases hs
    have hs01 : s0 = 0 ∨ s0 = 1 := by omega
    rcases hs01 with rfl | rfl
    · show rIx K tv (.int 0) H _
      refine skS.ix (v := .int p) rfl ?_
      walk_at "r"
      refine ⟨_, _, _, _, rfl, hx, f1, ⟨by omega, by omega⟩, ?_⟩
      rcases qq with ⟨n1, _, e1, h1, k⟩ | ⟨_, hc, _⟩ | ⟨hf, _⟩ | ⟨_, hf, k⟩ | ⟨hc, _⟩
      · refine .inl ⟨n1, e1, h1, fun te H1 s1 ht1 => ?_⟩
        have wr := hw.rows h1
        walk_at "r"
        refine Jv.r_makeX ?_
        walk_at "r"
        have ht1' : Jv.Sk K H1 (.ref te) (n1.map V.int) := ⟨te, rfl, .inr ht1⟩
        refine Jv.r_fld ?_
        walk_at "r"
        refine ⟨a, _, dx, _, _, rfl, s1 _ _ hga, O.o_Weights, O.n_Weights_lines, rfl, ?_⟩
        walk_at "r"
        refine ⟨_, _, _, L, n1, p, q, rfl, hw, hW.same s1, ht1', .inl ⟨rfl, h1, fun rv H6 s6 dv1 => ?_⟩⟩
        walk_at "r"
        exact mkW' dv1 (wr.good lineR_LT) fun r H' s' _ ga => k r H' ((s1.trans s6).trans s') ga
      · cases hc
      · exact absurd hf (by decide)
      · exact .inr ⟨hf, fun e H' s' he => k e H' s' he⟩
      · cases hc
    · show rIx K tv (.int 1) H _
      refine skS.ix (v := .int q) rfl ?_
      walk_at "r"
      refine ⟨_, _, _, _, rfl, hx, f1, ⟨by omega, by omega⟩, ?_⟩
      rcases qq with ⟨_, hc, _⟩ | ⟨n1, _, e1, h1, k⟩ | ⟨hf, _⟩ | ⟨hc, _⟩ | ⟨_, hf, k⟩
      · cases hc
      · refine .inl ⟨n1, e1, h1, fun te H1 s1 ht1 => ?_⟩
        have wr := hw.cols h1
        walk_at "r"
        refine Jv.r_makeX ?_
        walk_at "r"
        have ht1' : Jv.Sk K H1 (.ref te) (n1.map V.int) := ⟨te, rfl, .inr ht1⟩
        refine Jv.r_fld ?_
        walk_at "r"
        refine ⟨a, _, dx, _, _, rfl, s1 _ _ hga, O.o_Weights, O.n_Weights_lines, rfl, ?_⟩
        walk_at "r"
        refine ⟨_, _, _, L, n1, p, q, rfl, hw, hW.same s1, ht1', .inr ⟨rfl, h1, fun rv H6 s6 dv1 => ?_⟩⟩
        walk_at "r"
        exact mkW' dv1 (wr.good lineR_LL) fun r H' s' _ ga => k r H' ((s1.trans s6).trans s') ga
      · exact absurd hf (by decide)
      · cases hc
      · exact .inr ⟨hf, fun e H' s' he => k e H' s' he⟩
  · rcases qq with ⟨_, rfl, _⟩ | ⟨_, rfl, _⟩ | ⟨_, k⟩ | ⟨rfl, _⟩ | ⟨rfl, _⟩
    · exact absurd ew (by decide)
    · exact absurd ew (by decide)
    · exact k H (Same.refl _)
    · exact absurd ew (by decide)
    · exact absurd ew (by decide)
end
end K50

namespace Jv
open PySem PySem.Spec PyProof.Rows L2
/-! ### the places at which a test holds: [k for k, x in enumerate(xs) if ..] -/
def idxV (n : Nat) (f : Nat → Bool) : List V := ((List.range n).filter f).map fun k => V.int (k : Nat)
theorem idxV_more (n : Nat) (f : Nat → Bool) : idxV (n + 1) f = idxV n f ++ if f n = true then [V.int (n : Nat)] else [] := by
  unfold idxV
  rw [List.range_succ, List.filter_append, List.map_append]
  by_cases h : f n = true <;> simp [h]
theorem idxV_len (n : Nat) (f : Nat → Bool) : (idxV n f).length ≤ n := by
  unfold idxV
  rw [List.length_map]
  exact Nat.le_trans (List.length_filter_le _ _) (by simp)
section
variable {K : PySem.W.Frag} {σ : L2.St} {H : Hp} {tt : TT} {Q : VK} {xs : List V} {x : V} {a b i : Nat}
theorem lcEnW {J : It} {G : Hp → Prop} (w : Walk J xs.length G (YPair (fun i => some (.int (i : Nat))) (fun i => xs[i]?))) (hG : ∀ H', Same H H' → G H') (f : Nat → Bool) (few : xs.length ≤ 900)
    (hw : ∀ x y, wipe (((wipe σ [a, b]).set a (some x)).set b (some y)) [a, b] = wipe σ [a, b]) (hr : ∀ x y, (((wipe σ [a, b]).set a (some x)).set b (some y))[a]? = some (some x))
    (hs : ∀ i v H1, xs[i]? = some v → Same H H1 → ∀ P : Bool → Hp → Prop, P (f i) H1 → tt (((wipe σ [a, b]).set a (some (.int (i : Nat)))).set b (some v)) H1 P)
    (hd : ∀ D H1, Same H H1 → H D = none → H1 D = some (.lst (idxV xs.length f)) → Q (.ref D) H1) : ∀ D, H D = none → ∃ W : Nat → Nat → Hp → Prop, (∃ m, W 0 m (upd H D (.lst []))) ∧ ∀ i m H, W i m H →
      (J.stop i H ∧ Q (.ref D) H) ∨ (J.go i H ∧ ∃ Nx : Hp → Prop, (∀ H', Nx H' → ∃ m', m' < m ∧ W (i + 1) m' H') ∧ ∀ x H', J.yld i H x H' → gTup K 2 (gCons (gName a) (gCons (gName b) gNil)) x (wipe σ [a, b]) H' fun σ2 H2 => wipe σ2 [a, b] = wipe σ [a, b] ∧ tt σ2 H2 fun b H3 =>
        if b = true then tVar a σ2 H3 fun y H4 => ∃ acc, H4 D = some (.lst acc) ∧ acc.length < sizeLine ∧ Nx (upd H4 D (.lst (acc ++ [y]))) else Nx H3) := by
  intro D hD
  refine lc_it w (fun i H1 => Same H H1 ∧ H1 D = some (.lst (idxV i f))) ⟨same_new hD, upd_same⟩ (fun i H1 _ h => hG H1 h.1) ?_ ?_
  · rintro i x H1 H2 hi ⟨s1, e1⟩ ⟨T, y, z, rfl, hT, rfl, e2, e3⟩
    cases e2
    have sN := same_new (u := .tup [.int (i : Nat), z]) hT
    refine ⟨T, _, rfl, sqT_at upd_same, rfl, _, _, rfl, _, _, rfl, rfl, hw _ _, ?_⟩
    refine hs i z _ e3 (s1.trans sN) _ ?_
    by_cases h : f i = true
    · rw [h]
      refine r_ift ?_
      refine ⟨_, hr _ _, _, sN _ _ e1, small_lt (Nat.lt_of_le_of_lt (idxV_len _ _) (by omega)), fun c o e => ?_, ?_⟩
      · exact kpO (sN _ _ (s1 c o e)) (ne_of_none e hD)
      · rw [upd_same, idxV_more, if_pos h]
    · rw [Bool.not_eq_true] at h
      rw [h]
      refine r_iff ⟨s1.trans sN, ?_⟩
      rw [idxV_more, h]; simp; exact sN _ _ e1
  · rintro H1 ⟨s1, e1⟩
    exact hd D H1 s1 hD e1
theorem lcEnT {ta : TA} {t : Addr} (hit : ∀ P : List V → Hp → Prop, P [.ref t] H → ta σ H P) (ht : SqT K H t xs) (f : Nat → Bool) (few : xs.length ≤ 900)
    (hw : ∀ x y, wipe (((wipe σ [a, b]).set a (some x)).set b (some y)) [a, b] = wipe σ [a, b]) (hr : ∀ x y, (((wipe σ [a, b]).set a (some x)).set b (some y))[a]? = some (some x))
    (hs : ∀ i v H1, xs[i]? = some v → Same H H1 → ∀ P : Bool → Hp → Prop, P (f i) H1 → tt (((wipe σ [a, b]).set a (some (.int (i : Nat)))).set b (some v)) H1 P)
    (hd : ∀ D H1, Same H H1 → H D = none → H1 D = some (.lst (idxV xs.length f)) → Q (.ref D) H1) : tLc (iEnT K ta) (gTup K 2 (gCons (gName a) (gCons (gName b) gNil))) tt (tVar a) [a, b] σ H Q :=
  hit _ ⟨t, xs, rfl, ht, lcEnW walk_enT (fun H' s => Jv.Same.sqT s ht) f few hw hr hs hd⟩
theorem lcEnL {ta : TA} {t : Addr} (hit : ∀ P : List V → Hp → Prop, P [.ref t] H → ta σ H P) (ht : SqL K H t xs) (f : Nat → Bool) (few : xs.length ≤ 900)
    (hw : ∀ x y, wipe (((wipe σ [a, b]).set a (some x)).set b (some y)) [a, b] = wipe σ [a, b]) (hr : ∀ x y, (((wipe σ [a, b]).set a (some x)).set b (some y))[a]? = some (some x))
    (hs : ∀ i v H1, xs[i]? = some v → Same H H1 → ∀ P : Bool → Hp → Prop, P (f i) H1 → tt (((wipe σ [a, b]).set a (some (.int (i : Nat)))).set b (some v)) H1 P)
    (hd : ∀ D H1, Same H H1 → H D = none → H1 D = some (.lst (idxV xs.length f)) → Q (.ref D) H1) : tLc (iEnum K ta) (gTup K 2 (gCons (gName a) (gCons (gName b) gNil))) tt (tVar a) [a, b] σ H Q :=
  hit _ ⟨t, xs, rfl, ht, lcEnW walk_enum (fun H' s => s.seq ht) f few hw hr hs hd⟩
end
end Jv

namespace K50
open PySem PySem.Spec PyProof.Rows L2
/-! ### goals alike -/
theorem can_want (L : List (List (List Int))) : (wantT L).canLay0 = true := by
  unfold wantT
  simp only [PyData.canLay0]
  refine canAll_map (fun line => ?_) L
  unfold lineT
  simp only [PyData.canLay0]
  exact canAll_map (fun ns => by simp only [PyData.canLay0]; exact Jv.canAll_ints ns) line
theorem dep_want (L : List (List (List Int))) : (wantT L).depth ≤ 3 := by
  unfold wantT
  simp only [PyData.depth]
  have : PyData.depthAll (L.map lineT) ≤ 2 := by
    refine depAll_map (fun line => ?_) L
    unfold lineT
    simp only [PyData.depth]
    have : PyData.depthAll (line.map fun ns => PyData.tuple (ns.map .int)) ≤ 1 := depAll_map (fun ns => by simp only [PyData.depth, Jv.depAll_ints]; omega) line
    omega
  omega
theorem shaped_want (L : List (List (List Int))) : SeqAt.shaped (wantT L) = true := by
  have h1 := can_want L
  have h2 := dep_want L
  simp [SeqAt.shaped, h1]; omega
theorem shaped_bb (a b : Bool) : SeqAt.shaped (.tuple [.bool a, .bool b]) = true := by simp [SeqAt.shaped, PyData.canLay0, PyData.canLayAll0, PyData.depth, PyData.depthAll]
theorem eqv_wants (L1 L2 : List (List (List Int))) : PyData.eqv (wantT L1) (wantT L2) = decide (L1 = L2) := by
  unfold wantT
  rw [PyData.eqv]
  refine eqvAll_map (fun a b => ?_) _ _
  unfold lineT
  rw [PyData.eqv]
  refine eqvAll_map (fun c d => ?_) _ _
  rw [PyData.eqv]
  exact eqvAll_map (fun i j => by rw [PyData.eqv]; by_cases e : i = j <;> simp [e]) _ _
theorem eqv_bools (a b c d : Bool) : PyData.eqv (.tuple [.bool a, .bool b]) (.tuple [.bool c, .bool d]) = decide (a = c ∧ b = d) := by
  cases a <;> cases b <;> cases c <;> cases d <;> decide
def sp_Goals_eq (K : PySem.W.Frag) (C : Addr) : Sp := fun vs H Q _ => ∃ a b l L k0 k1, ∃ p q : Int, vs = [.ref a, .ref b] ∧ GAt K H C a l (wantT L) k0 k1 p q ∧
  ((∃ l2 L2 m0 m1, ∃ p2 q2 : Int, GAt K H C b l2 (wantT L2) m0 m1 p2 q2 ∧ Q (.bl (decide (l = l2 ∧ L = L2 ∧ k0 = m0 ∧ k1 = m1))) H) ∨ (∃ ys, SqT K H b ys ∧ Q (.bl false) H))
section
variable {P : Program} {w : World} {K : PySem.W.Frag} {mg : Str → Option Value} {base : Heap}
theorem ok_Goalsu_equ (T : Tx) (O : Ok K mg T) : FnOk P w K mg base CX0 1 T.f_Goalsu_equ T.d_Goalsu_equ ["self", "other"] (sp_Goals_eq K T.C_Goals) := by
  refine O.F_Goalsu_equ.ok sc_Goalsu_equ (fun vs H Q E h => by obtain ⟨_, _, _, _, _, _, _, _, rfl, _⟩ := h; rfl) (fun cdv A outer s H vs Q E hr h => ?_)
  obtain ⟨a, b, l, L, k0, k1, p, q, rfl, ha, qq⟩ := h
  refine ⟨_, (pss_one (ps_ret (pe_and (pe_callB (r := rIsi K) call_isi (by rfl) O.z_isinstance (by decide +kernel) (pa_cons (pv 1) (pa_cons (pe_glob (v := .ref _) (by rfl) O.m_Goals rfl) pa_nil))) (pe_and (pe_cmpR op_eq (show PE _ _ (tFld K _ _) from pe_fld (pv 0) rfl) (show PE _ _ (tFld K _ _) from pe_fld (pv 1) rfl) (nomark _)) (pe_and (pe_cmpR (r := rEqD K) (op_eqD hr.units) (show PE _ _ (tFld K _ _) from pe_fld (pv 0) rfl) (show PE _ _ (tFld K _ _) from pe_fld (pv 1) rfl) (nomark _)) (pe_one (pe_cmpR (r := rEqD K) (op_eqD hr.units) (show PE _ _ (tFld K _ _) from pe_fld (pv 0) rfl) (show PE _ _ (tFld K _ _) from pe_fld (pv 1) rfl) (nomark _)))))))), ?_⟩
  obtain ⟨dx, wv, kv, tv, hca, hW, hK, _⟩ := id ha
  walk_at "r"
  rcases qq with ⟨l2, L2, m0, m1, p2, q2, hb, k⟩ | ⟨ys, hb, k⟩
  · obtain ⟨dx2, wv2, kv2, tv2, hcb, hW2, hK2, _⟩ := id hb
    refine ⟨_, _, _, _, true, rfl, .own T.C_Goals, .base (.ins hcb O.o_Goals O.i_Goals_ca O.i_Goals_cn O.i_Goals_ct O.i_Goals_cm), by simp [PySem.W.kitOne], ?_⟩
    walk_at "r"
    refine Jv.r_fld ?_
    walk_at "r"
    refine ⟨a, _, dx, _, _, rfl, hca, O.o_Goals, O.n_Goals_ladder, rfl, ?_⟩
    walk_at "r"
    refine Jv.r_fld ?_
    walk_at "r"
    refine ⟨b, _, dx2, _, _, rfl, hcb, O.o_Goals, O.n_Goals_ladder, rfl, ?_⟩
    walk_at "r"
    by_cases e1 : l = l2
    case neg =>
      rw [decide_eq_false (fun h => e1 h.1)] at k
      walk_at "r"
      rw [decide_eq_false (fun e => e1 (V.int.inj e)), if_neg Bool.false_ne_true]
      exact k
    subst e1
    walk_at "r"
    rw [decide_eq_true rfl, if_pos rfl]
    walk_at "r"
    refine Jv.r_fld ?_
    walk_at "r"
    refine ⟨a, _, dx, _, _, rfl, hca, O.o_Goals, O.n_Goals_wanted, rfl, ?_⟩
    walk_at "r"
    refine Jv.r_fld ?_
    walk_at "r"
    refine ⟨b, _, dx2, _, _, rfl, hcb, O.o_Goals, O.n_Goals_wanted, rfl, ?_⟩
    walk_at "r"
    refine ⟨_, _, hW.dp, hW2.dp, shaped_want _, shaped_want _, ?_⟩
    rw [eqv_wants]
    by_cases e2 : L = L2
    case neg =>
      rw [decide_eq_false (fun h => e2 h.2.1)] at k
      rw [decide_eq_false e2]
      walk_at "r"
      exact k
    subst e2
    rw [decide_eq_true rfl]
    walk_at "r"
    refine Jv.r_fld ?_
    walk_at "r"
    refine ⟨a, _, dx, _, _, rfl, hca, O.o_Goals, O.n_Goals_knows, rfl, ?_⟩
    walk_at "r"
    refine Jv.r_fld ?_
    walk_at "r"
    refine ⟨b, _, dx2, _, _, rfl, hcb, O.o_Goals, O.n_Goals_knows, rfl, ?_⟩
    walk_at "r"
    refine ⟨_, _, hK.dp, hK2.dp, shaped_bb _ _, shaped_bb _ _, ?_⟩
    rw [eqv_bools]
    have e3 : decide (l = l ∧ L = L ∧ k0 = m0 ∧ k1 = m1) = decide (k0 = m0 ∧ k1 = m1) := by simp
    rw [e3] at k
    exact k
  · refine ⟨_, _, _, _, false, rfl, .own T.C_Goals, Jv.tyT hb, O.i_Goals_kt, ?_⟩
    walk_at "r"
    exact k
end
end K50

namespace K50
open PySem PySem.Spec PyProof.Rows L2
/-! ### floors, cheapest goals, goals up to a cost -/
section
variable {K : PySem.W.Frag} {σ : L2.St} {H : Hp} {te : TE} {Q : VK} {a b : Nat}
theorem lcPr {A : Addr} {refs : List V} {prs : List (Int × Int)} {te0 : TE} (hit : ∀ P : VK, P (.ref A) H → te0 σ H P) (hA : SqT K H A refs) (ht : Jv.Tups H refs prs) (f : Int × Int → Int) (few : prs.length ≤ 900)
    (hw : ∀ x y, wipe (((wipe σ [a, b]).set a (some x)).set b (some y)) [a, b] = wipe σ [a, b])
    (hs : ∀ pr H1, pr ∈ prs → Same H H1 → ∀ P : VK, P (.int (f pr)) H1 → te (((wipe σ [a, b]).set a (some (.int pr.1))).set b (some (.int pr.2))) H1 P)
    (hd : ∀ D H1, Same H H1 → H D = none → H1 D = some (.lst ((prs.map f).map V.int)) → Q (.ref D) H1) :
    tLc (fun σ H R => iList K te0 σ H R ∨ iTup K te0 σ H R) (gTup K 2 (gCons (gName a) (gCons (gName b) gNil))) tYes te [a, b] σ H Q := by
  have hl : refs.length = prs.length := Paired.length ht
  refine .inr (hit _ ⟨A, rfl, ⟨refs, hA⟩, fun D hD => ?_⟩)
  refine lc_it walk_tup (fun i H1 => Same H H1 ∧ H1 D = some (.lst (((prs.take i).map f).map V.int))) ⟨Jv.same_new hD, upd_same⟩ (fun i H1 _ h => Jv.Same.sqT h.1 hA) ?_ ?_
  · rintro i x H1 H2 hi ⟨s1, e1⟩ ⟨rfl, hx⟩
    obtain ⟨pr, hpr, t, rfl, ht2⟩ := pairAt ht hx
    refine ⟨t, _, rfl, Jv.sqT_at (s1 _ _ ht2), rfl, _, _, rfl, _, _, rfl, rfl, hw _ _, ?_⟩
    refine Jv.r_yes ?_
    refine Jv.r_true (c := true) rfl ?_
    refine hs pr _ (List.mem_of_getElem? hpr) s1 _ ⟨_, e1, ?_, ?_, ?_⟩
    · rw [List.length_map, List.length_map, List.length_take]; exact Jv.small_lt (by omega)
    · intro b o e; exact Jv.kpO (s1 b o e) (ne_of_none e hD)
    · rw [upd_same, Jv.take_more hpr, List.map_append, List.map_append]; rfl
  · rintro H1 ⟨s1, e1⟩
    rw [List.take_of_length_le (by omega)] at e1
    exact hd D H1 s1 hD e1
end
theorem getD_at {α : Type} {xs : List α} {i : Nat} {d x : α} (h : xs[i]? = some x) : xs.getD i d = x := by
  rw [List.getD_eq_getElem?_getD, h]; rfl
def minI : List Int → Int
  | [] => 0
  | [a] => a
  | a :: r => min a (minI r)
def maxI : List Int → Int
  | [] => 0
  | [a] => a
  | a :: r => max a (maxI r)
theorem minI_spec : ∀ {ns : List Int}, ns ≠ [] → minI ns ∈ ns ∧ ∀ y ∈ ns, minI ns ≤ y
  | [], h => absurd rfl h
  | [a], _ => ⟨List.mem_cons_self, fun y h => by rw [List.mem_singleton.mp h]; exact Int.le_refl _⟩
  | a :: b :: r, _ => by
    obtain ⟨h1, h2⟩ := minI_spec (ns := b :: r) (by simp)
    show min a (minI (b :: r)) ∈ _ ∧ ∀ y ∈ _, min a (minI (b :: r)) ≤ y
    refine ⟨?_, fun y hy => ?_⟩
    · rcases Int.le_total a (minI (b :: r)) with h | h
      · rw [Int.min_eq_left h]; exact List.mem_cons_self
      · rw [Int.min_eq_right h]; exact List.mem_cons_of_mem _ h1
    · rcases List.mem_cons.mp hy with rfl | hy
      · exact Int.min_le_left ..
      · exact Int.le_trans (Int.min_le_right ..) (h2 y hy)
theorem maxI_spec : ∀ {ns : List Int}, ns ≠ [] → maxI ns ∈ ns ∧ ∀ y ∈ ns, y ≤ maxI ns
  | [], h => absurd rfl h
  | [a], _ => ⟨List.mem_cons_self, fun y h => by rw [List.mem_singleton.mp h]; exact Int.le_refl _⟩
  | a :: b :: r, _ => by
    obtain ⟨h1, h2⟩ := maxI_spec (ns := b :: r) (by simp)
    show max a (maxI (b :: r)) ∈ _ ∧ ∀ y ∈ _, y ≤ max a (maxI (b :: r))
    refine ⟨?_, fun y hy => ?_⟩
    · rcases Int.le_total a (maxI (b :: r)) with h | h
      · rw [Int.max_eq_right h]; exact List.mem_cons_of_mem _ h1
      · rw [Int.max_eq_left h]; exact List.mem_cons_self
    · rcases List.mem_cons.mp hy with rfl | hy
      · exact Int.le_max_left ..
      · exact Int.le_trans (h2 y hy) (Int.le_max_right ..)
theorem minI_of {m : Int} {ns : List Int} (h1 : m ∈ ns) (h2 : ∀ y, y ∈ ns → m ≤ y) : m = minI ns := by
  obtain ⟨h3, h4⟩ := minI_spec (List.ne_nil_of_mem h1)
  exact Int.le_antisymm (h2 _ h3) (h4 _ h1)
theorem maxI_of {m : Int} {ns : List Int} (h1 : m ∈ ns) (h2 : ∀ y, y ∈ ns → y ≤ m) : m = maxI ns := by
  obtain ⟨h3, h4⟩ := maxI_spec (List.ne_nil_of_mem h1)
  exact Int.le_antisymm (h4 _ h1) (h2 _ h3)
def endsUp (ns : List Int) (c : Int) : List Int := ((List.range ns.length).filter fun k => decide (ns.getD k 0 ≤ c)).map fun (k : Nat) => (k : Int)
theorem endsUp_len (ns : List Int) (c : Int) : (endsUp ns c).length ≤ ns.length := by
  unfold endsUp
  rw [List.length_map]
  exact Nat.le_trans (List.length_filter_le _ _) (by simp)
theorem endsUp_mem {ns : List Int} {c z : Int} : z ∈ endsUp ns c ↔ ∃ k : Nat, z = k ∧ k < ns.length ∧ ns.getD k 0 ≤ c := by
  unfold endsUp
  simp only [List.mem_map, List.mem_filter, List.mem_range, decide_eq_true_iff]
  exact ⟨fun ⟨k, ⟨h1, h2⟩, h3⟩ => ⟨k, h3.symm, h1, h2⟩, fun ⟨k, h1, h2, h3⟩ => ⟨k, ⟨h2, h3⟩, h1.symm⟩⟩
theorem endsUp_sorted (ns : List Int) (c : Int) : (endsUp ns c).Pairwise (· < ·) := by
  unfold endsUp
  rw [List.pairwise_map]
  exact (List.Pairwise.filter _ List.pairwise_lt_range).imp fun h => by omega
theorem endsUp_none {ns : List Int} {c : Int} (h : ns ≠ []) : endsUp ns c = [] ↔ c < minI ns := by
  obtain ⟨h1, h2⟩ := minI_spec h
  constructor
  · intro e
    obtain ⟨k, hk, ek⟩ := List.getElem_of_mem h1
    have : ¬ (ns.getD k 0 ≤ c) := fun hc => by
      have : ((k : Nat) : Int) ∈ endsUp ns c := endsUp_mem.mpr ⟨k, rfl, hk, hc⟩
      rw [e] at this; cases this
    rw [List.getD_eq_getElem?_getD, List.getElem?_eq_getElem hk, Option.getD_some, ek] at this
    omega
  · intro hc
    refine List.eq_nil_iff_forall_not_mem.mpr fun z hz => ?_
    obtain ⟨k, rfl, hk, hle⟩ := endsUp_mem.mp hz
    rw [List.getD_eq_getElem?_getD, List.getElem?_eq_getElem hk, Option.getD_some] at hle
    have := h2 _ (List.getElem_mem hk)
    omega
theorem endsUp_all {ns : List Int} {c d : Int} (h : ∀ n ∈ ns, n ≤ c) (h2 : ∀ n ∈ ns, n ≤ d) : endsUp ns c = endsUp ns d := by
  unfold endsUp
  congr 1
  refine List.filter_congr fun k hk => ?_
  have hk := List.mem_range.mp hk
  rw [List.getD_eq_getElem?_getD, List.getElem?_eq_getElem hk, Option.getD_some, decide_eq_true (h _ (List.getElem_mem hk)), decide_eq_true (h2 _ (List.getElem_mem hk))]
theorem endsUp_neat {l : Int} {ns : List Int} {c : Int} (h : (ns.length : Int) = l + 1) : neatI l (endsUp ns c) = endsUp ns c :=
  neat_of (fun z hz => by
    obtain ⟨k, rfl, hk, _⟩ := endsUp_mem.mp hz
    omega) (endsUp_sorted ns c)
theorem idxV_ends (ns : List Int) (c : Int) : Jv.idxV ns.length (fun k => decide (ns.getD k 0 ≤ c)) = (endsUp ns c).map V.int := by
  unfold Jv.idxV endsUp; rw [List.map_map]; rfl
def floorV (C : List (List (List Int))) (W : List (List Int)) (p q : Nat) : Int := ((Jv.prs p q).map fun e => ((W.getD e.1.toNat []).getD e.2.toNat 0) * minI ((C.getD e.1.toNat []).getD e.2.toNat [])).sum
def cheapE (ns : List Int) (x : Int) : List Int := endsUp ns (if x > 0 then minI ns else maxI ns)
def cheapU (C : List (List (List Int))) (W : List (List Int)) : List (List (List Int)) := List.zipWith (List.zipWith cheapE) C W
def upU (c : Int) (C : List (List (List Int))) : List (List (List Int)) := C.map fun line => line.map fun ns => endsUp ns c
theorem cheap_ne {ns : List Int} {x : Int} (h : ns ≠ []) : cheapE ns x ≠ [] := fun e => by
  unfold cheapE at e
  have h1 := (endsUp_none h).mp e
  obtain ⟨_, h2⟩ := minI_spec h
  obtain ⟨h3, _⟩ := maxI_spec h
  have := h2 _ h3
  split at h1 <;> omega
section
variable {l : Int} {C : List (List (List Int))} {W : List (List Int)} {p q : Nat}
theorem zip_mem {α β γ : Type} {f : α → β → γ} {xs : List α} {ys : List β} {z : γ} (h : z ∈ List.zipWith f xs ys) : ∃ x y, x ∈ xs ∧ y ∈ ys ∧ z = f x y := by
  obtain ⟨i, hi⟩ := List.mem_iff_getElem?.mp h
  rw [List.getElem?_zipWith] at hi
  cases c5 : xs[i]? with
  | none => rw [c5] at hi; cases hi
  | some l0 =>
    cases c6 : ys[i]? with
    | none => rw [c5, c6] at hi; cases hi
    | some m0 =>
      rw [c5, c6] at hi
      exact ⟨l0, m0, List.mem_of_getElem? c5, List.mem_of_getElem? c6, (Option.some.inj hi).symm⟩
theorem Gc.ne {line : List (List Int)} {ns : List Int} (g : Gc l C p q) (h : line ∈ C) (h2 : ns ∈ line) : ns ≠ [] := fun e => by
  have := g.len line h ns h2
  have := g.l0
  rw [e] at *; simp at *; omega
theorem Gc.cheap (g : Gc l C p q) (w : Gw W p q) : Wd l (cheapU C W) p q := by
  have hp := g.hp
  have hw := w.hp
  refine ⟨g.l0, g.l6, by unfold cheapU; rw [List.length_zipWith]; omega, fun line hl => ?_, g.p0, g.p6, g.q0, g.q6, g.pq, fun line hl ns hn => ?_⟩
  · obtain ⟨c, r, hc, hr, rfl⟩ := zip_mem hl
    rw [List.length_zipWith, g.hq c hc, w.hq r hr]; omega
  · obtain ⟨c, r, hc, hr, rfl⟩ := zip_mem hl
    obtain ⟨ns, x, hx, _, rfl⟩ := zip_mem hn
    exact ⟨cheap_ne (g.ne hc hx), endsUp_neat (g.len c hc ns hx)⟩
theorem Gc.up (g : Gc l C p q) {c : Int} (h : ∀ line ∈ C, ∀ ns ∈ line, endsUp ns c ≠ []) : Wd l (upU c C) p q := by
  refine ⟨g.l0, g.l6, by unfold upU; rw [List.length_map]; exact g.hp, fun line hl => ?_, g.p0, g.p6, g.q0, g.q6, g.pq, fun line hl ns hn => ?_⟩
  · obtain ⟨c, hc, rfl⟩ := List.mem_map.mp hl
    rw [List.length_map]; exact g.hq c hc
  · obtain ⟨c, hc, rfl⟩ := List.mem_map.mp hl
    obtain ⟨ns, hx, rfl⟩ := List.mem_map.mp hn
    exact ⟨h c hc ns hx, endsUp_neat (g.len c hc ns hx)⟩
theorem lines_is {dw : PyData} {U : List (List (List Int))} (h : LinesR dw U) (hp : U.length = p) (hq : ∀ line ∈ U, line.length = q) (p0 : 1 ≤ p) : Jv.linesD dw = .some (p, q) := by
  obtain ⟨rows, e, pr⟩ := h
  have hall : (rows.all fun e => (Jv.seqD e).isSome) = true := List.all_eq_true.mpr fun r hr => by
    obtain ⟨line, _, h⟩ := memL pr hr
    exact h.some
  unfold Jv.linesD
  rw [e]; dsimp only
  rw [hall, if_pos rfl, lines_len pr]
  cases U with
  | nil => exfalso; rw [← hp] at p0; exact absurd p0 (by decide)
  | cons a r =>
    rw [List.map_cons]
    show (if _ then _ else _) = _
    have h1 : a.length = q := hq a List.mem_cons_self
    have h2 : (r.map List.length).all (fun m => decide (m = a.length)) = true := List.all_eq_true.mpr fun m hm => by
      obtain ⟨b, hb, rfl⟩ := List.mem_map.mp hm
      exact decide_eq_true (by rw [h1]; exact hq b (List.mem_cons_of_mem _ hb))
    rw [h2, if_pos rfl, List.length_map, h1, ← hp]; rfl
theorem Gc.sidesD (g : Gc l C p q) : Jv.sidesD (.tuple [.int p, .int q]) = true := by
  show decide _ = true
  have h := g.pq
  refine decide_eq_true ⟨⟨?_, ?_⟩, ⟨?_, ?_⟩, ?_⟩
  · have := g.p0; omega
  · have := g.p6; omega
  · have := g.q0; omega
  · have := g.q6; omega
  · exact_mod_cast h
theorem wanted_fault {dk : PyData} (g : Gc l C p q) {c : Int} (h : ∃ line ∈ C, ∃ ns ∈ line, endsUp ns c = []) : faultG (.int l) (wantLL (upU c C)) dk = some "wanted" := by
  have e1 : Jv.wholeD (.int l) (.int 0) (.int 6) = true := by
    show (decide (0 ≤ l) && decide (l ≤ 6)) = true
    rw [decide_eq_true g.l0, decide_eq_true g.l6]; rfl
  have e2 : Jv.linesD (wantLL (upU c C)) = .some (p, q) := lines_is linesLL (by unfold upU; rw [List.length_map]; exact g.hp) (fun line hl => by
    obtain ⟨c, hc, rfl⟩ := List.mem_map.mp hl
    rw [List.length_map]; exact g.hq c hc) g.p0
  have e3 : allEnds l (wantLL (upU c C)) = false := by
    obtain ⟨line, hl, ns, hn, he⟩ := h
    unfold allEnds
    rw [List.all_eq_false]
    refine ⟨.list [], ?_, by simp [Jv.endsD, Jv.seqD]⟩
    refine List.mem_flatMap.mpr ⟨.list ((line.map fun ns => endsUp ns c).map fun ns => .list (ns.map .int)), ?_, ?_⟩
    · show _ ∈ (upU c C).map fun line => PyData.list (line.map fun ns => .list (ns.map .int))
      exact List.mem_map.mpr ⟨line.map fun ns => endsUp ns c, List.mem_map.mpr ⟨line, hl, rfl⟩, rfl⟩
    · show _ ∈ (line.map fun ns => endsUp ns c).map fun ns => PyData.list (ns.map .int)
      exact List.mem_map.mpr ⟨[], List.mem_map.mpr ⟨ns, hn, he⟩, rfl⟩
  unfold faultG
  dsimp only
  rw [e1, e2, e3]
  show (if Jv.sidesD (.tuple [.int p, .int q]) = false then _ else _) = _
  rw [g.sidesD]; rfl
end
def sp_ends_up_to (K : PySem.W.Frag) : Sp := fun vs H Q _ => ∃ A c, ∃ ns : List Int, vs = [.ref A, .int c] ∧ SqT K H A (ns.map V.int) ∧ ns.length ≤ 100 ∧ ∀ D H', Same H H' → H D = none → H' D = some (.lst ((endsUp ns c).map V.int)) → Q (.ref D) H'
def sp_couples_of (K : PySem.W.Frag) : Sp := fun vs H Q _ => ∃ sd, ∃ p q : Nat, vs = [sd] ∧ Jv.Dv K H sd (.tuple [.int p, .int q]) ∧ (p ≤ 20 ∧ q ≤ 20) ∧ ∀ r refs H', Same H H' → H' r = some (.tup refs) → Jv.Tups H' refs (Jv.prs p q) → Q (.ref r) H'
def sp_floor_of (K : PySem.W.Frag) (CC CW CN : Addr) : Sp := fun vs H Q E => ∃ a b l C W, ∃ p q p2 q2 : Nat, vs = [.ref a, .ref b] ∧ CAt K H CC a l (linT C) p q ∧ Gc l C p q ∧ WAt K H CW b W p2 q2 ∧ Gw W p2 q2 ∧
  (¬ (p2 = p ∧ q2 = q) → ∀ e H', Same H H' → H' e = some (.xd [("what", .str "sides")]) → E (.ref CN) (some e) H') ∧ ((p2 = p ∧ q2 = q) → ∀ H', Same H H' → Q (.int (floorV C W p q)) H')
def sp_cheapest (K : PySem.W.Frag) (CC CW CN CG : Addr) : Sp := fun vs H Q E => ∃ a b l C W, ∃ p q p2 q2 : Nat, vs = [.ref a, .ref b] ∧ CAt K H CC a l (linT C) p q ∧ Gc l C p q ∧ WAt K H CW b W p2 q2 ∧ Gw W p2 q2 ∧
  (¬ (p2 = p ∧ q2 = q) → ∀ e H', Same H H' → H' e = some (.xd [("what", .str "sides")]) → E (.ref CN) (some e) H') ∧ ((p2 = p ∧ q2 = q) → ∀ r H', Same H H' → GAt K H' CG r l (wantT (cheapU C W)) false false p q → Q (.ref r) H')
def sp_as_goals (K : PySem.W.Frag) (CC CG CB : Addr) : Sp := fun vs H Q E => ∃ a c l C, ∃ p q : Nat, vs = [.ref a, .int c] ∧ CAt K H CC a l (linT C) p q ∧ Gc l C p q ∧
  ((∃ line ∈ C, ∃ ns ∈ line, endsUp ns c = []) → ∀ e H', Same H H' → H' e = some (.xd [("what", .str "wanted")]) → E (.ref CB) (some e) H') ∧
  ((∀ line ∈ C, ∀ ns ∈ line, endsUp ns c ≠ []) → ∀ r H', Same H H' → GAt K H' CG r l (wantT (upU c C)) false false p q → Q (.ref r) H')
section
variable {P : Program} {w : World} {K : PySem.W.Frag} {mg : Str → Option Value} {base : Heap}
theorem ok_ends_up_to (T : Tx) (O : Ok K mg T) : FnOk P w K mg base CX0 1 T.f_ends_up_to T.d_ends_up_to ["entry", "cost"] (sp_ends_up_to K) := by
  refine O.F_ends_up_to.ok sc_ends_up_to (fun vs H Q E h => by obtain ⟨_, _, _, rfl, _⟩ := h; rfl) (fun cdv A outer s H vs Q E hr h => ?_)
  obtain ⟨t, c, ns, rfl, ht, hl, k⟩ := h
  refine ⟨_, (pss_one (ps_ret (pe_lc (own := [("end", 2), ("price", 3)]) (by rfl) sc_ends_up_to.nd (show PI _ _ _ (Jv.iEnT K _) from Jv.pi_enT (by rfl) O.z_enumerate (pa_cons (pv 0) pa_nil)) (blkOk_by (own := [("end", 2), ("price", 3)]) (N := ["entry", "cost", "end", "price"]) (sc := defScope s_ends_up_to) (scope := ({ kind := .function, names := [(".0", .local), ("end", .local), ("price", .local), ("cost", .free)], isGenerator := false, isCoroutine := false } : Scope)) (by decide +kernel)) (fun _ _ _ _ _ => (show PG _ _ (gTup K 2 _) from pg_tup rfl (pgs_cons (pg_name (i := 2) sc_ends_up_to.nd rfl (Or.inl rfl) (Or.inr rfl)) (pgs_cons (pg_name (i := 3) sc_ends_up_to.nd rfl (Or.inl rfl) (Or.inr rfl)) pgs_nil)))) (fun _ _ _ _ _ => (pts_one (pt_cmpR op_le (pv 3) (pv 1) (nomark _)))) (fun _ _ _ _ _ => (pv 2))))), ?_⟩
  walk_at "r"
  refine Jv.lcEnT (a := 2) (b := 3) (t := t) (fun Pq hP => ?_) ht (fun k => decide (ns.getD k 0 ≤ c)) (by rw [List.length_map]; omega) (fun _ _ => rfl) (fun _ _ => rfl) (fun i v H1 hv s1 Pq hP => ?_) (fun D H1 s1 hD eD => ?_)
  · walk_at "r"
    exact hP
  · obtain ⟨n, hn, rfl⟩ := Jv.map_at hv
    rw [show ns.getD i 0 = n by rw [List.getD_eq_getElem?_getD, hn]; rfl] at hP
    walk_at "r"
    exact hP
  · rw [List.length_map, idxV_ends] at eD
    exact k D H1 s1 hD eD
theorem ok_couples_of (T : Tx) (O : Ok K mg T) : FnOk P w K mg base CX0 1 T.f_couples_of T.d_couples_of ["sides"] (sp_couples_of K) := by
  refine O.F_couples_of.ok sc_couples_of (fun vs H Q E h => by obtain ⟨_, _, _, rfl, _⟩ := h; rfl) (fun cdv A outer s H vs Q E hr h => ?_)
  obtain ⟨sd, p, q, rfl, hs, ⟨p1, q1⟩, k⟩ := h
  refine ⟨_, (pss_one (ps_ret (pe_callTy (r := Jv.rTupOf K) call_tuple_of (by rfl) O.z_tuple (by decide +kernel) (pa_cons (pe_lc2 (own := [("east", 1), ("west", 2)]) (vs1 := [2]) (by rfl) sc_couples_of.nd (pi_range1 (by rfl) O.z_range (pa_cons (pe_ix (r := rIx K) ix_seq (pv 0) (pe_glob (v := .int (0)) (by rfl) O.c_EAST ⟨_, rfl⟩) (fun _ _ => rfl)) pa_nil)) (blkOk_by (own := [("east", 1), ("west", 2)]) (N := ["sides", "east", "west"]) (sc := defScope s_couples_of) (by decide +kernel)) (by decide) (fun _ _ _ _ _ => (pg_name (i := 1) sc_couples_of.nd rfl (Or.inl rfl))) (fun _ _ _ _ _ => pts_nil) (fun _ _ _ _ _ => (pi_range1 (by rfl) O.z_range (pa_cons (pe_ix (r := rIx K) ix_seq (pv 0) (pe_glob (v := .int (1)) (by rfl) O.c_WEST ⟨_, rfl⟩) (fun _ _ => rfl)) pa_nil))) (fun _ _ _ _ _ => (pg_name (i := 2) sc_couples_of.nd rfl (Or.inl rfl))) (fun _ _ _ _ _ => pts_nil) (fun _ _ _ _ _ => (pe_tup (pa_cons (pv 1) (pa_cons (pv 2) pa_nil))))) pa_nil)))), ?_⟩
  obtain ⟨ss, skS, alS⟩ := hs.sk rfl
  obtain rfl := Jv.dv_intsV (ns := [(p : Int), (q : Int)]) alS
  walk_at "r"
  refine Jv.lc2R (p := p) (q := q) (a := 1) (b := 2) (by omega) (by omega) (fun _ => rfl) (fun _ _ => rfl) (fun P hP => ?_) (fun i H1 hi s1 P hP => ?_) (fun i j H1 hi hj s1 P hP => ?_) (fun D refs H1 s1 hD e1 t1 => ?_)
  · walk_at "r"
    refine skS.ix (v := .int p) rfl ?_
    walk_at "r"; exact hP
  · walk_at "r"
    refine (skS.same s1).ix (v := .int q) rfl ?_
    walk_at "r"; exact hP
  · walk_at "r"
    exact fun t ht => hP t _ (Jv.same_new ht) ht upd_same
  · walk_at "r"
    refine ⟨D, refs, rfl, .inl ⟨Jv.sqL_at e1, fun t ht => ?_⟩⟩
    exact k t refs _ (s1.trans (Jv.same_new ht)) upd_same (t1.same (Jv.same_new ht))
theorem ok_as_goals (T : Tx) (O : Ok K mg T) : FnOk P w K mg base (L2.CX P w) 5 T.f_as_goals T.d_as_goals ["costs", "cost"] (sp_as_goals K T.C_Costs T.C_Goals T.C_BadGoals) := by
  refine O.F_as_goals.okX sc_as_goals (fun vs H Q E h => by obtain ⟨_, _, _, _, _, _, rfl, _⟩ := h; rfl) (fun cdv A outer s H vs Q E hr h => ?_)
  obtain ⟨a, c, l, C, p, q, rfl, hc, hw, k1, k2⟩ := h
  obtain ⟨dx, wv, tv, hca, hW, hS⟩ := id hc
  refine ⟨_, (pss_one (ps_ret (Jv.pe_makeX O.k_Goals (ok_Goalsu_initu T O) (hr.mono (by decide)) (by rfl) O.m_Goals O.b1_Goalsu_initu.2 O.b1_Goalsu_initu.1 (fun σ => passAt (takes_of rfl rfl rfl rfl) σ) (pa_cons (show PE _ _ (tFld K _ _) from pe_fld (pv 0) rfl) (pa_cons (pe_lc (own := [("line", 2)]) (by rfl) sc_as_goals.nd (Jv.piOr (show PI _ _ _ (iList K _) from pi_list (show PE _ _ (tFld K _ _) from pe_fld (pv 0) rfl)) (show PI _ _ _ (iTup K _) from pi_tup (show PE _ _ (tFld K _ _) from pe_fld (pv 0) rfl))) (blkOk_by (own := [("line", 2)]) (N := ["costs", "cost", "line", "entry"]) (sc := defScope s_as_goals) (scope := ({ kind := .function, names := [(".0", .local), ("line", .local), ("cost", .free)], isGenerator := false, isCoroutine := false } : Scope)) (by decide +kernel)) (fun _ _ _ _ _ => (pg_name (i := 2) sc_as_goals.nd rfl (Or.inl rfl))) (fun _ _ _ _ _ => pts_nil) (fun _ _ _ _ _ => (pe_lc (own := [("entry", 3)]) (by rfl) sc_as_goals.nd (Jv.piOr (show PI _ _ _ (iList K _) from pi_list (pv 2)) (show PI _ _ _ (iTup K _) from pi_tup (pv 2))) (blkOk_by (own := [("entry", 3)]) (N := ["costs", "cost", "line", "entry"]) (sc := ({ kind := .function, names := [(".0", .local), ("line", .local), ("cost", .cell)], isGenerator := false, isCoroutine := false } : Scope)) (scope := ({ kind := .function, names := [(".0", .local), ("entry", .local), ("ends_up_to", .globalImplicit), ("cost", .free)], isGenerator := false, isCoroutine := false } : Scope)) (by decide +kernel)) (fun _ _ _ _ _ => (pg_name (i := 3) sc_as_goals.nd rfl (Or.inl rfl))) (fun _ _ _ _ _ => pts_nil) (fun _ _ _ _ _ => (pe_call (ok_ends_up_to T O) (hr.mono (by decide)) (by rfl) O.m_ends_up_to O.F_ends_up_to.kp O.b_ends_up_to .nil pass0 (pa_cons (pv 3) (pa_cons (pv 1) pa_nil))))))) pa_nil))))), ?_⟩
  walk_at "r"
  refine Jv.r_makeX ?_
  walk_at "r"
  refine Jv.r_fld ?_
  walk_at "r"
  refine ⟨a, _, dx, _, _, rfl, hca, O.o_Costs, O.n_Costs_ladder, rfl, ?_⟩
  walk_at "r"
  obtain ⟨ws, skW, alW⟩ := hW.sk rfl
  have lws := alW.len
  rw [List.length_map] at lws
  have hp6 := hw.p6
  have hq6 := hw.q6
  have hpL := hw.hp
  have l6 := hw.l6
  refine Jv.lcS3 (K := K) (N := []) (j := 2) (fun P hP => ?_) skW .nil ((upU c C).map fun line => .list (line.map fun ns => .list (ns.map .int))) (by rw [List.length_map]; unfold upU; rw [List.length_map]; omega) (by omega) (fun i v e D1 H6 hi hv he s6 hN1 hD1 PP hP => ?_) (fun D1 ys H6 s6 hD1 eD1 dv1 _ => ?_)
  · refine Jv.r_fld ?_
    walk_at "r"
    exact ⟨a, _, dx, _, _, rfl, hca, O.o_Costs, O.n_Costs_lines, rfl, hP⟩
  · obtain ⟨dl, c1, c2⟩ := alW.at hv
    rw [List.getElem?_map] at c1
    obtain ⟨line, c3, rfl⟩ := Option.map_eq_some_iff.mp c1
    have hline := List.mem_of_getElem? c3
    have hlq := hw.hq line hline
    have ee : e = .list ((line.map fun ns => endsUp ns c).map fun ns => .list (ns.map .int)) := by
      unfold upU at he
      rw [List.map_map, List.getElem?_map, c3] at he
      exact (Option.some.inj he).symm
    subst ee
    obtain ⟨us, skU, alU⟩ := (c2.same s6).sk rfl
    have lus := alU.len
    rw [List.length_map] at lus
    walk_at "r"
    refine Jv.lcS2 (K := K) (N := [D1]) (j := 3) (i := 2) rfl skU hN1 ((line.map fun ns => endsUp ns c).map fun ns => .list (ns.map .int)) (by rw [List.length_map, List.length_map]; omega) (by omega) (fun i2 u e2' D2 H7 hi2 hu he2 s7 hN2 hD2 PP2 hP2 => ?_) (fun D2 ys2 H7 s7 hD2 eD2 dv2 _ => ?_)
    · obtain ⟨dn, g1, g2⟩ := alU.at hu
      rw [List.getElem?_map] at g1
      obtain ⟨ns, g3, rfl⟩ := Option.map_eq_some_iff.mp g1
      have hns := List.mem_of_getElem? g3
      have hnl := hw.len line hline ns hns
      have ee2 : e2' = .list ((endsUp ns c).map .int) := by
        rw [List.map_map, List.getElem?_map, g3] at he2
        exact (Option.some.inj he2).symm
      subst ee2
      obtain ⟨A2, xs2, rfl, hA2, aA2⟩ := Jv.tup_of (g2.same s7)
      obtain rfl := Jv.dv_intsV aA2
      walk_at "r"
      refine ⟨A2, c, ns, rfl, hA2, by omega, fun D3 H8 s8 hD3 eD3 => ?_⟩
      exact hP2 _ _ s8 (.lst (Jv.hide_at (by
          intro m
          obtain ⟨o, ho⟩ := hN2 D3 m
          rw [hD3] at ho; cases ho) eD3) (Jv.dv_ints _))
    · exact hP _ _ s7 (.lst (Jv.hide_at (by
        intro m
        obtain ⟨o, ho⟩ := hN1 D2 m
        rw [hD2] at ho; cases ho) eD2) dv2)
  · walk_at "r"
    rw [Jv.hide_nil] at dv1
    have hdw : Jv.Dv K H6 (.ref D1) (wantLL (upU c C)) := .lst eD1 dv1
    have hdk : Jv.Dv K H6 (.ref T.w0_Goalsu_initu) (.tuple [.bool false, .bool false]) := .tup (O.y0_Goalsu_initu _) (.cons (.bl _) (.cons (.bl _) .nil))
    by_cases h : ∃ line ∈ C, ∃ ns ∈ line, endsUp ns c = []
    · refine mk_bad (.int l) hdw (few_lines linesLL (by unfold upU; rw [List.length_map]; omega) (fun line hl => ?_) fun line hl ns hn => ?_) hdk (wanted_fault hw h) fun d H' s' hd => k1 h d H' (s6.trans s') hd
      · obtain ⟨l0, h2, rfl⟩ := List.mem_map.mp hl
        rw [List.length_map, hw.hq l0 h2]; omega
      · obtain ⟨l0, h2, rfl⟩ := List.mem_map.mp hl
        obtain ⟨n0, h3, rfl⟩ := List.mem_map.mp hn
        have := hw.len l0 h2 n0 h3
        have := endsUp_len n0 c
        omega
    · have h' : ∀ line ∈ C, ∀ ns ∈ line, endsUp ns c ≠ [] := fun line hl ns hn e => h ⟨line, hl, ns, hn, e⟩
      have wd := hw.up h'
      refine mk_good (.int l) hdw hdk (wd.good linesLL rfl) fun r H' s' _ ga => ?_
      rw [want_eq, wd.same] at ga
      exact k2 h' r H' (s6.trans s') ga
theorem ok_floor_of (T : Tx) (O : Ok K mg T) : FnOk P w K mg base (L2.CX P w) 5 T.f_floor_of T.d_floor_of ["costs", "weights"] (sp_floor_of K T.C_Costs T.C_Weights T.C_NotAlike) := by
  refine O.F_floor_of.okX sc_floor_of (fun vs H Q E h => by obtain ⟨_, _, _, _, _, _, _, _, _, rfl, _⟩ := h; rfl) (fun cdv A outer s H vs Q E hr h => ?_)
  obtain ⟨a, b, l, C, W, p, q, p2, q2, rfl, ha, hw, hb, hm, k1, k2⟩ := h
  obtain ⟨dx, wv, tv, hca, hW, hS⟩ := id ha
  obtain ⟨dy, wu, tu, hcb, hU, hR⟩ := id hb
  refine ⟨_, (pss_cons (ps_expr (pe_callS (ok_check_weights T O) (hr.mono (by decide)) (by rfl) O.m_check_weights O.F_check_weights.kp O.b_check_weights (fun σ => passAt (takes_of rfl rfl rfl rfl) σ) (pa_cons (pv 0) (pa_cons (pv 1) pa_nil))))
  (pss_cons (ps_set (i := 2) sc_floor_of.nd rfl (Or.inl rfl) (pe_call (ok_couples_of T O) (hr.mono (by decide)) (by rfl) O.m_couples_of O.F_couples_of.kp O.b_couples_of .nil pass0 (pa_cons (show PE _ _ (tFld K _ _) from pe_fld (pv 0) rfl) pa_nil)))
  (pss_one (ps_ret (pe_callB (r := Jv.rSumA K) (Jv.cr_sumA rfl) (by rfl) O.z_sum (by decide +kernel) (pa_cons (pe_lc (own := [("east", 3), ("west", 4)]) (by rfl) sc_floor_of.nd (Jv.piOr (show PI _ _ _ (iList K _) from pi_list (pv 2)) (show PI _ _ _ (iTup K _) from pi_tup (pv 2))) (blkOk_by (own := [("east", 3), ("west", 4)]) (N := ["costs", "weights", "couples", "east", "west"]) (sc := defScope s_floor_of) (scope := ({ kind := .function, names := [(".0", .local), ("east", .local), ("west", .local), ("min", .globalImplicit), ("costs", .free), ("weights", .free)], isGenerator := false, isCoroutine := false } : Scope)) (by decide +kernel)) (fun _ _ _ _ _ => (show PG _ _ (gTup K 2 _) from pg_tup rfl (pgs_cons (pg_name (i := 3) sc_floor_of.nd rfl (Or.inl rfl) (Or.inr rfl)) (pgs_cons (pg_name (i := 4) sc_floor_of.nd rfl (Or.inl rfl) (Or.inr rfl)) pgs_nil)))) (fun _ _ _ _ _ => pts_nil) (fun _ _ _ _ _ => (pe_op op_mul (pe_ix (r := rIx K) ix_seq (pe_ix (r := rIx K) ix_seq (show PE _ _ (tFld K _ _) from pe_fld (pv 1) rfl) (pv 3) (fun _ _ => rfl)) (pv 4) (fun _ _ => rfl)) (pe_callB (r := Jv.rMinA K) (Jv.cr_minA rfl) (by rfl) O.z_min (by decide +kernel) (pa_cons (pe_ix (r := rIx K) ix_seq (pe_ix (r := rIx K) ix_seq (show PE _ _ (tFld K _ _) from pe_fld (pv 0) rfl) (pv 3) (fun _ _ => rfl)) (pv 4) (fun _ _ => rfl)) pa_nil))))) pa_nil)))))), ?_⟩
  walk_at "r"
  refine ⟨a, b, _, _, _, _, rfl, ha.sides O, hb.sides O, fun h => ?_, fun h e H' s' he => k1 (fun z => h ⟨by rw [z.1], by rw [z.2]⟩) e H' s' he⟩
  have r1 := k2 ⟨by exact_mod_cast h.1, by exact_mod_cast h.2⟩
  have ep : p2 = p := by exact_mod_cast h.1
  have eq : q2 = q := by exact_mod_cast h.2
  subst ep eq
  walk_at "r"
  refine Jv.r_fld ?_
  walk_at "r"
  refine ⟨a, _, dx, _, _, rfl, hca, O.o_Costs, O.n_Costs_sides, rfl, ?_⟩
  walk_at "r"
  have p6 := hw.p6
  have q6 := hw.q6
  refine ⟨tv, p2, q2, rfl, hS, ⟨by omega, by omega⟩, fun r refs H1 s1 hr1 ht1 => ?_⟩
  walk_at "r"
  obtain ⟨ws, skW, alW⟩ := (hW.same s1).sk rfl
  obtain ⟨us, skU, alU⟩ := (hU.same s1).sk rfl
  have hpl := hw.hp
  have hml := hm.hp
  have lpr : (Jv.prs p2 q2).length ≤ 36 := by
    have := Jv.pairsTo_len q2 p2 0
    have h3 : p2 * q2 ≤ 6 * 6 := Nat.mul_le_mul p6 q6
    unfold Jv.prs; omega
  refine lcPr (A := r) (refs := refs) (prs := Jv.prs p2 q2) (fun P hP => ?_) (Jv.sqT_at hr1) ht1 (fun e => ((W.getD e.1.toNat []).getD e.2.toNat 0) * minI ((C.getD e.1.toNat []).getD e.2.toNat [])) (by omega) (fun _ _ => rfl) (fun pr H2 hpr s2 P hP => ?_) (fun D H2 s2 hD eD => ?_)
  · walk_at "r"
    exact hP
  · obtain ⟨e, f⟩ := pr
    have hb : ∃ i j : Nat, e = i ∧ f = j ∧ i < p2 ∧ j < q2 := by
      unfold Jv.prs Jv.pairsTo at hpr
      simp at hpr
      obtain ⟨i, hi, j, hj, e1, e2⟩ := hpr
      exact ⟨i, j, e1.symm, e2.symm, hi, hj⟩
    obtain ⟨i, j, rfl, rfl, hi, hj⟩ := hb
    have s12 := s1.trans s2
    obtain ⟨lw, elw⟩ : ∃ lw, W[i]? = some lw := ⟨_, List.getElem?_eq_getElem (by omega)⟩
    obtain ⟨lc, elc⟩ : ∃ lc, C[i]? = some lc := ⟨_, List.getElem?_eq_getElem (by omega)⟩
    have q1 := hm.hq lw (List.mem_of_getElem? elw)
    have q2' := hw.hq lc (List.mem_of_getElem? elc)
    obtain ⟨x, ex⟩ : ∃ x, lw[j]? = some x := ⟨_, List.getElem?_eq_getElem (by omega)⟩
    obtain ⟨ns, en⟩ : ∃ ns, lc[j]? = some ns := ⟨_, List.getElem?_eq_getElem (by omega)⟩
    have ev : ((W.getD i []).getD j 0) * minI ((C.getD i []).getD j []) = x * minI ns := by
      rw [getD_at elw, getD_at ex, getD_at elc, getD_at en]
    simp only [Int.toNat_natCast] at hP
    rw [ev] at hP
    walk_at "r"
    refine Jv.r_fld ?_
    walk_at "r"
    refine ⟨b, _, dy, _, _, rfl, s12 _ _ hcb, O.o_Weights, O.n_Weights_lines, rfl, ?_⟩
    walk_at "r"
    obtain ⟨v1, c1, c2⟩ := alU.of (i := i) (d := rowW lw) (by rw [List.getElem?_map, elw]; rfl)
    obtain ⟨v2, d1, d2⟩ := alW.of (i := i) (d := rowT lc) (by rw [List.getElem?_map, elc]; rfl)
    refine (skU.same s2).ix (Jv.at_i (by omega) (by rw [Int.toNat_natCast]; exact c1)) ?_
    walk_at "r"
    obtain ⟨xs1, sk1, al1⟩ := (c2.same s2).sk rfl
    obtain rfl := Jv.dv_intsV al1
    refine sk1.ix (v := .int x) (Jv.at_i (by omega) (by rw [Int.toNat_natCast, List.getElem?_map, ex]; rfl)) ?_
    walk_at "r"
    refine Jv.r_fld ?_
    walk_at "r"
    refine ⟨a, _, dx, _, _, rfl, s12 _ _ hca, O.o_Costs, O.n_Costs_lines, rfl, ?_⟩
    walk_at "r"
    refine (skW.same s2).ix (Jv.at_i (by omega) (by rw [Int.toNat_natCast]; exact d1)) ?_
    walk_at "r"
    obtain ⟨xs2, sk2, al2⟩ := (d2.same s2).sk rfl
    obtain ⟨v3, f1, f2⟩ := al2.of (i := j) (d := .tuple (ns.map .int)) (by rw [List.getElem?_map, en]; rfl)
    refine sk2.ix (Jv.at_i (by omega) (by rw [Int.toNat_natCast]; exact f1)) ?_
    walk_at "r"
    obtain ⟨xs3, sk3, al3⟩ := f2.sk rfl
    obtain rfl := Jv.dv_intsV al3
    refine ⟨_, ns, rfl, sk3, List.length_pos_iff.mpr (hw.ne (List.mem_of_getElem? elc) (List.mem_of_getElem? en)), fun m m1 m2 => ?_⟩
    rw [minI_of m1 m2]
    have hxb := hm.ent lw (List.mem_of_getElem? elw) x (List.mem_of_getElem? ex)
    exact ⟨x, minI ns, rfl, rfl, .inl ⟨by omega, by omega⟩, hP⟩
  · walk_at "r"
    exact ⟨_, _, rfl, ⟨D, rfl, .inl (Jv.sqL_at eD)⟩, r1 _ (s1.trans s2)⟩
theorem ok_cheapest_goals (T : Tx) (O : Ok K mg T) : FnOk P w K mg base (L2.CX P w) 5 T.f_cheapest_goals T.d_cheapest_goals ["costs", "weights"] (sp_cheapest K T.C_Costs T.C_Weights T.C_NotAlike T.C_Goals) := by
  refine O.F_cheapest_goals.okX sc_cheapest_goals (fun vs H Q E h => by obtain ⟨_, _, _, _, _, _, _, _, _, rfl, _⟩ := h; rfl) (fun cdv A outer s H vs Q E hr h => ?_)
  obtain ⟨a, b, l, C, W, p, q, p2, q2, rfl, ha, hw, hb, hm, k1, k2⟩ := h
  obtain ⟨dx, wv, tv, hca, hW, hS⟩ := id ha
  obtain ⟨dy, wu, tu, hcb, hU, hR⟩ := id hb
  refine ⟨_, (pss_cons (ps_expr (pe_callS (ok_check_weights T O) (hr.mono (by decide)) (by rfl) O.m_check_weights O.F_check_weights.kp O.b_check_weights (fun σ => passAt (takes_of rfl rfl rfl rfl) σ) (pa_cons (pv 0) (pa_cons (pv 1) pa_nil))))
  (pss_cons (ps_set (i := 2) sc_cheapest_goals.nd rfl (Or.inl rfl) (pe_lst pa_nil))
  (pss_cons (ps_for (passes_of rfl) rfl (show PI _ _ _ (Jv.iZipX K _) from Jv.pi_zipX (by rfl) O.z_zip (pa_cons (show PE _ _ (tFld K _ _) from pe_fld (pv 0) rfl) (pa_cons (show PE _ _ (tFld K _ _) from pe_fld (pv 1) rfl) pa_nil))) (pg_tup rfl (pgs_cons (pg_name (i := 3) sc_cheapest_goals.nd rfl (Or.inl rfl)) (pgs_cons (pg_name (i := 4) sc_cheapest_goals.nd rfl (Or.inl rfl)) pgs_nil))) (pss_cons (ps_setLc (i := 5) (own := [("entry", 6), ("share", 7)]) (by rfl) sc_cheapest_goals.nd rfl rfl (sw_true rfl rfl rfl (by decide +kernel)) (show PI _ _ _ (Jv.iZipX K _) from Jv.pi_zipX (by rfl) O.z_zip (pa_cons (pv 3) (pa_cons (pv 4) pa_nil))) (blkOk_by (own := [("entry", 6), ("share", 7)]) (N := ["costs", "weights", "wanted", "line", "shares", "lets", "entry", "share", "let"]) (sc := defScope s_cheapest_goals) (scope := ({ kind := .function, names := [(".0", .local), ("entry", .local), ("share", .local), ("min", .globalImplicit), ("max", .globalImplicit)], isGenerator := false, isCoroutine := false } : Scope)) (by decide +kernel)) (fun _ _ _ _ _ => (show PG _ _ (gTup K 2 _) from pg_tup rfl (pgs_cons (pg_name (i := 6) sc_cheapest_goals.nd rfl (Or.inl rfl) (Or.inr rfl)) (pgs_cons (pg_name (i := 7) sc_cheapest_goals.nd rfl (Or.inl rfl) (Or.inr rfl)) pgs_nil)))) (fun _ _ _ _ _ => pts_nil) (fun _ _ _ _ _ => (pe_ifExp (pt_cmpR op_gt (pv 7) pe_int (nomark _)) (pe_callB (r := Jv.rMinA K) (Jv.cr_minA rfl) (by rfl) O.z_min (by decide +kernel) (pa_cons (pv 6) pa_nil)) (pe_callB (r := Jv.rMaxA K) (Jv.cr_maxA rfl) (by rfl) O.z_max (by decide +kernel) (pa_cons (pv 6) pa_nil)))))
  (pss_one (ps_expr (show PE _ _ (tBM K _ _ _ _) from pe_bm PySem.F.plainAttrs_list PySem.F.slot_list_append PySem.F.type_list_append mt_append (pv 2) (pa_cons (pe_lc (own := [("entry", 6), ("let", 8)]) (by rfl) sc_cheapest_goals.nd (show PI _ _ _ (Jv.iZipX K _) from Jv.pi_zipX (by rfl) O.z_zip (pa_cons (pv 3) (pa_cons (pv 5) pa_nil))) (blkOk_by (own := [("entry", 6), ("let", 8)]) (N := ["costs", "weights", "wanted", "line", "shares", "lets", "entry", "share", "let"]) (sc := defScope s_cheapest_goals) (scope := ({ kind := .function, names := [(".0", .local), ("entry", .local), ("let", .local), ("ends_up_to", .globalImplicit)], isGenerator := false, isCoroutine := false } : Scope)) (by decide +kernel)) (fun _ _ _ _ _ => (show PG _ _ (gTup K 2 _) from pg_tup rfl (pgs_cons (pg_name (i := 6) sc_cheapest_goals.nd rfl (Or.inl rfl) (Or.inr rfl)) (pgs_cons (pg_name (i := 8) sc_cheapest_goals.nd rfl (Or.inl rfl) (Or.inr rfl)) pgs_nil)))) (fun _ _ _ _ _ => pts_nil) (fun _ _ _ _ _ => (pe_call (ok_ends_up_to T O) (hr.mono (by decide)) (by rfl) O.m_ends_up_to O.F_ends_up_to.kp O.b_ends_up_to .nil pass0 (pa_cons (pv 6) (pa_cons (pv 8) pa_nil))))) pa_nil))))))
  (pss_one (ps_ret (Jv.pe_makeX O.k_Goals (ok_Goalsu_initu T O) (hr.mono (by decide)) (by rfl) O.m_Goals O.b1_Goalsu_initu.2 O.b1_Goalsu_initu.1 (fun σ => passAt (takes_of rfl rfl rfl rfl) σ) (pa_cons (show PE _ _ (tFld K _ _) from pe_fld (pv 0) rfl) (pa_cons (pv 2) pa_nil)))))))), ?_⟩
  walk_at "r"
  refine ⟨a, b, _, _, _, _, rfl, ha.sides O, hb.sides O, fun h => ?_, fun h e H' s' he => k1 (fun z => h ⟨by rw [z.1], by rw [z.2]⟩) e H' s' he⟩
  have r1 := k2 ⟨by exact_mod_cast h.1, by exact_mod_cast h.2⟩
  have ep : p2 = p := by exact_mod_cast h.1
  have eq : q2 = q := by exact_mod_cast h.2
  subst ep eq
  walk_at "r"
  intro S hS0
  have s0 := Jv.same_new (u := .lst []) hS0
  walk_at "r"
  obtain ⟨A, ws, rfl, hA, alA⟩ := Jv.tup_of hW
  obtain ⟨B, us, rfl, hB, alB⟩ := Jv.tup_of hU
  have lA := alA.len
  have lB := alB.len
  rw [List.length_map] at lA lB
  have hLp := hw.hp
  have hMp := hm.hp
  have p6 := hw.p6
  have q6 := hw.q6
  have wd := hw.cheap hm
  have lad := wd.hp
  refine Jv.forZT (n := p2) (xs := ws) (ys := us) (fun P hP => ?_) (fun j σ H1 => ∃ y3 y4 y5 y6 y7 y8 xs, σ = [some (.ref a), some (.ref b), some (.ref S), y3, y4, y5, y6, y7, y8] ∧ Same H H1 ∧ H1 S = some (.lst xs) ∧ Jv.DvAll K (Jv.hide [S] H1) xs (((cheapU C W).take j).map fun line => .list (line.map fun ns => .list (ns.map .int))) ∧ xs.length = j)
    ⟨_, _, _, _, _, _, [], rfl, s0, upd_same, .nil, rfl⟩ (by omega) (fun i σ H1 ⟨_, _, _, _, _, _, _, _, s, _⟩ => ⟨Jv.Same.sqT s hA, Jv.Same.sqT s hB⟩) ?_ ?_
  · refine Jv.r_fld ?_
    walk_at "r"
    refine ⟨a, _, dx, _, _, rfl, s0 _ _ hca, O.o_Costs, O.n_Costs_lines, rfl, ?_⟩
    walk_at "r"
    refine Jv.r_fld ?_
    walk_at "r"
    refine ⟨b, _, dy, _, _, rfl, s0 _ _ hcb, O.o_Weights, O.n_Weights_lines, rfl, ?_⟩
    walk_at "r"
    exact hP
  · rintro j x y T' σ1 H1 hx hy hT ⟨y3, y4, y5, y6, y7, y8, xs, rfl, s1, eS, al, ln⟩
    have hj := (List.getElem?_eq_some_iff.mp hx).1
    have nT := Jv.same_new (u := .tup [x, y]) hT
    refine ⟨T', _, rfl, Jv.sqT_at upd_same, rfl, _, _, rfl, _, _, rfl, rfl, ?_⟩
    obtain ⟨d1, c1, c2⟩ := alA.at hx
    obtain ⟨d2, c3, c4⟩ := alB.at hy
    rw [List.getElem?_map] at c1 c3
    obtain ⟨line, c5, rfl⟩ := Option.map_eq_some_iff.mp c1
    obtain ⟨row, c6, rfl⟩ := Option.map_eq_some_iff.mp c3
    have hline := List.mem_of_getElem? c5
    have l1 := hw.hq line hline
    have l2 := hm.hq row (List.mem_of_getElem? c6)
    have sT := s1.trans nT
    have eS' := nT _ _ eS
    have al' := al.same (Jv.hide_same nT)
    generalize upd H1 T' (.tup [x, y]) = H2 at sT eS' al' ⊢
    have c2h : Jv.Dv K (Jv.hide [S] H2) x (rowT line) := by
      have c2' : Jv.Dv K (Jv.hide [] H) x (rowT line) := by rw [Jv.hide_nil]; exact c2
      exact c2'.same (Jv.hide_more sT hS0)
    obtain ⟨X, xl, rfl, hX0, aX⟩ := Jv.tup_of c2h
    have hX := Jv.Same.sqT Jv.hide_le hX0
    obtain ⟨Y, yl, rfl, hY, aY⟩ := Jv.tup_of (c4.same sT)
    obtain rfl := Jv.dv_intsV aY
    have lX := aX.len
    rw [List.length_map] at lX
    have hN : Jv.Held [S] H2 := fun b m => by rw [List.mem_singleton.mp m]; exact ⟨_, eS'⟩
    have mins : ∀ {i : Nat} {v : V}, xl[i]? = some v → ∃ ns B2, line[i]? = some ns ∧ v = .ref B2 ∧ SqT K (Jv.hide [S] H2) B2 (ns.map V.int) ∧ ns ≠ [] ∧ ns.length ≤ 7 := fun {i v} hv => by
      obtain ⟨dn, g1, g2⟩ := aX.at hv
      rw [List.getElem?_map] at g1
      obtain ⟨ns, g3, rfl⟩ := Option.map_eq_some_iff.mp g1
      obtain ⟨B2, xs2, rfl, hB2, aB2⟩ := Jv.tup_of g2
      obtain rfl := Jv.dv_intsV aB2
      have := hw.len line hline ns (List.mem_of_getElem? g3)
      have := hw.l6
      exact ⟨ns, B2, g3, rfl, hB2, hw.ne hline (List.mem_of_getElem? g3), by omega⟩
    walk_at "r"
    refine Jv.lcZT (N := [S]) (fun P hP => ?_) hX hY hN ((List.zipWith (fun ns x => if x > 0 then minI ns else maxI ns) line row).map .int) (by rw [List.length_map, List.length_zipWith, List.length_map]; omega) (by rw [List.length_map]; omega) (fun _ _ => rfl) (fun i x y e D H3 hx hy he s3 hN3 hD P hP => ?_) (fun D zs H3 s3 hD eD dv _ => ?_)
    · walk_at "r"
      exact hP
    · obtain ⟨ns, B2, g3, rfl, hB2, nne, _⟩ := mins hx
      obtain ⟨n, hn1, rfl⟩ := Jv.map_at hy
      have ee : e = .int (if n > 0 then minI ns else maxI ns) := by
        rw [List.getElem?_map, List.getElem?_zipWith, g3, hn1] at he
        exact (Option.some.inj he).symm
      subst ee
      have hB3 := Jv.Same.sqT s3 (Jv.Same.sqT Jv.hide_le hB2)
      walk_at "r"
      refine Jv.r_dec (fun h0 => ?_) (fun h0 => ?_)
      · rw [if_pos (show n > 0 from h0)] at hP
        walk_at "r"
        refine ⟨_, ns, rfl, ⟨B2, rfl, .inr hB3⟩, List.length_pos_iff.mpr nne, fun m m1 m2 => ?_⟩
        rw [minI_of m1 m2]
        exact hP _ _ (Same.refl _) (.int _)
      · rw [if_neg (show ¬ n > 0 from h0)] at hP
        walk_at "r"
        refine ⟨_, ns, rfl, ⟨B2, rfl, .inr hB3⟩, List.length_pos_iff.mpr nne, fun m m1 m2 => ?_⟩
        rw [maxI_of m1 m2]
        exact hP _ _ (Same.refl _) (.int _)
    · obtain rfl := Jv.dv_intsV dv
      have nD : D ≠ S := fun z => by rw [z, eS'] at hD; cases hD
      have hN3 : Jv.Held [S] H3 := hN.same s3
      have eS3 := s3 _ _ eS'
      walk_at "r"
      refine Jv.lcZM (N := [S]) (fun P hP => ?_) (Jv.Same.sqT s3 hX) (Jv.sqL_at eD) hN3 ((List.zipWith cheapE line row).map fun ns => .list (ns.map .int)) (by rw [List.length_map, List.length_zipWith, List.length_map, List.length_zipWith]; omega) (by rw [List.length_map, List.length_zipWith]; omega) (fun _ _ => rfl) (fun i x y e D2 H4 hx hy he s4 hN4 hD2 P hP => ?_) (fun D2 zs2 H4 s4 hD2 eD2 dv2 _ => ?_)
      · walk_at "r"
        exact hP
      · obtain ⟨ns, B2, g3, rfl, hB2, nne, n7⟩ := mins hx
        obtain ⟨z, hz, rfl⟩ := Jv.map_at hy
        rw [List.getElem?_zipWith, g3] at hz
        cases hn : row[i]? with
        | none => rw [hn] at hz; cases hz
        | some n =>
        rw [hn] at hz
        obtain rfl := Option.some.inj hz
        have ee : e = .list ((cheapE ns n).map .int) := by
          rw [List.getElem?_map, List.getElem?_zipWith, g3, hn] at he
          exact (Option.some.inj he).symm
        subst ee
        have hB4 := Jv.Same.sqT s4 (Jv.Same.sqT s3 (Jv.Same.sqT Jv.hide_le hB2))
        walk_at "r"
        refine ⟨B2, _, ns, rfl, hB4, by omega, fun D3 H8 s8 hD3 eD3 => ?_⟩
        exact hP _ _ s8 (.lst (Jv.hide_at (by
          intro m
          obtain ⟨o, ho⟩ := hN4 D3 m
          rw [hD3] at ho; cases ho) eD3) (Jv.dv_ints _))
      · walk_at "r"
        refine Jv.r_app (s4 _ _ (s3 _ _ eS')) (by omega) ?_
        have nD2 : D2 ≠ S := fun z => by rw [z, s3 _ _ eS'] at hD2; cases hD2
        have s34 := s3.trans s4
        refine ⟨_, _, _, _, _, _, xs ++ [.ref D2], rfl, ?_, upd_same, ?_, by rw [List.length_append, ln]; rfl⟩
        · intro c o hc
          rw [upd_ne (ne_of_none hc hS0)]
          exact s34 _ _ (sT _ _ hc)
        · rw [Jv.hide_upd]
          have c7 : (cheapU C W)[j]? = some (List.zipWith cheapE line row) := by unfold cheapU; rw [List.getElem?_zipWith, c5, c6]
          rw [Jv.take_more c7, List.map_append]
          exact Jv.DvAll.snoc (.lst (Jv.hide_at (fun m => nD2 (List.mem_singleton.mp m)) eD2) dv2) (al'.same (Jv.hide_same s34))
  · rintro σ1 H1 ⟨y3, y4, y5, y6, y7, y8, xs, rfl, s1, eS, al, ln⟩
    rw [List.take_of_length_le (by omega)] at al
    walk_at "r"
    refine Jv.r_makeX ?_
    walk_at "r"
    refine Jv.r_fld ?_
    walk_at "r"
    refine ⟨a, _, dx, _, _, rfl, s1 _ _ hca, O.o_Costs, O.n_Costs_ladder, rfl, ?_⟩
    walk_at "r"
    have hdw : Jv.Dv K H1 (.ref S) (wantLL (cheapU C W)) := .lst eS (al.same Jv.hide_le)
    have hdk : Jv.Dv K H1 (.ref T.w0_Goalsu_initu) (.tuple [.bool false, .bool false]) := .tup (O.y0_Goalsu_initu _) (.cons (.bl _) (.cons (.bl _) .nil))
    refine mk_good (.int l) hdw hdk (wd.good linesLL rfl) fun r H' s' _ ga => ?_
    rw [want_eq, wd.same] at ga
    exact r1 r H' (s1.trans s') ga
end
end K50

namespace Jv
open PySem PySem.Spec PyProof.Rows L2
theorem exm_no {K : PySem.W.Frag} {C D : Addr} (b : PySem.W.subIn K (.ref D) (.type "BaseException") = some true) (i : PySem.W.isClsIn K D = true) (t : PySem.W.typeIn K (.ref D) = some (.type "type")) (s : PySem.W.subIn K (.ref C) (.ref D) = some false) :
    PySem.W.exmOne K (.ref C) (.ref D) = some false := by
  have i' : (PySem.W.clsIn K D).isSome = true := i
  unfold PySem.W.exmOne PySem.W.kitCls
  simp [b, i', t, s]
theorem ExcP.no {K : PySem.W.Frag} {C D : Addr} (h : ExcP K D) (s : PySem.W.subIn K (.ref C) (.ref D) = some false) : PySem.W.exmOne K (.ref C) (.ref D) = some false := exm_no h.b h.i h.t s
theorem ExcI.no {K : PySem.W.Frag} {C D fI : Addr} (h : ExcI K D fI) (s : PySem.W.subIn K (.ref C) (.ref D) = some false) : PySem.W.exmOne K (.ref C) (.ref D) = some false := exm_no h.o.exC h.i h.o.tyC s
section
open PySem.Sem (wp)
variable {X : Cx} {CX : CXT} {k : Nat} {g p C : Addr} {mc : Value} {fd : FuncData} {ps : List Str} {sp : Sp} {dvs : List V} {ds : List Value} {E : L2.St → XK} {m : Str} {pos apos : Pos} {e o : Expr} {es : List Expr} {ta : TE} {t : TA}
def tSMethX (C : Addr) (sp : Sp) (dvs : List V) (E : L2.St → XK) (ta : TE) (t : TA) : TE := fun σ H Q => ta σ H fun x H1 => x = .ref C ∧ t σ H1 fun vs H2 => sp (vs ++ dvs) H2 Q (E σ)
/-- a static method of a class that may raise within a try -/
theorem pe_smethX {pl : Sem Bool} (he : PE X o ta) (c : SMet X.K C mc m p g) (F : FnOk X.prog X.w X.K X.mg X.base CX k g fd ps sp) (hr : Room k X.A) (hb : Binds X.K fd ps ds) (hd : Vals dvs ds) (hx : ∀ σ, PassesAt CX X σ (E σ)) (ha : PA X (e :: es) t)
    (hst : starEach (e :: es) X.env = (false, eval e X.env) :: starEach es X.env := by rfl) (hpl : (backTo pos (starEach es X.env)).any (·.1) = false := by rfl)
    (ht : eval (.Call (.Attribute o m apos) (e :: es) [] pos) X.env = (do
      let ov ← eval o X.env
      standAt apos.atName
      let (f, first) ← holding [ov] (getMethod ov m pl)
      callWith pos f first (backTo pos (starEach (e :: es) X.env)) (backToKw pos (keywordEach [] X.env))) := by rfl) :
    PE X (.Call (.Attribute o m apos) (e :: es) [] pos) (tSMethX C sp dvs E ta t) := by
  refine ⟨fun pins s σ H Q I h => ?_⟩
  refine PySem.W.methodCall_KW (pl := pl) (thn (he.run pins s σ H _ I h) fun u s1 ⟨x, H1, I1, rx, ex, q⟩ => ?_) ht
  subst ex
  obtain rfl : u = Value.ref C := rx
  refine getsm_ok I1 c fun s2 I2 => ?_
  refine PySem.W.callWith_K (first := []) (h₀ := X.base) I.ok.mod.kin c.kp (thn (ha.run pos pins s2 σ H1 _ I2 q) fun us s3 ⟨vs, H2, I3, rv, q2⟩ => ⟨I3.kIn, ?_⟩) hst hpl
  exact run_fnX F hr hb hd (hx σ) I3 rv q2
theorem r_smethX {σ : L2.St} {H : Hp} {Q : VK} (h : ta σ H fun x H1 => x = .ref C ∧ t σ H1 fun vs H2 => sp (vs ++ dvs) H2 Q (E σ)) : tSMethX C sp dvs E ta t σ H Q := h
end
theorem free_of {H H' : Hp} {b : Addr} (s : Same H H') (n : H' b = none) : H b = none := by
  cases e : H b with
  | none => rfl
  | some o => rw [s _ _ e] at n; cases n
theorem wholeD_no {i : Int} (h : ¬ (0 ≤ i ∧ i ≤ 1000000)) : wholeD (.int i) (.int 0) (.int 1000000) = false := by
  cases e : wholeD (.int i) (.int 0) (.int 1000000) with
  | false => rfl
  | true => obtain ⟨j, ei, a, b⟩ := wholeD_int e; cases ei; exact absurd ⟨a, b⟩ h
end Jv
namespace K50
open PySem PySem.Spec PyProof.Rows L2
/-! ### weights: what the law sees -/
theorem mkWR {K : PySem.W.Frag} {H1 : Hp} {C CB : Addr} {R : Addr → Hp → Prop} {E : XK} {xw : V} {dw : PyData} (hw : Jv.Dv K H1 xw dw) (fw : Jv.few2 dw)
    (kE : ∀ f, faultW dw = some f → ∀ d H', Same H1 H' → H' d = some (.xd [("what", .str f)]) → E (.ref CB) (some d) H')
    (kQ : ∀ L p q, GoodW dw L p q → ∀ r H', Same H1 H' → H1 r = none → WAt K H' C r L p q → R r H') :
    ∀ x dx, H1 x = none → H1 dx = none → dx ≠ x → sp_Weights_init K C CB [.ref x, xw] (upd (upd H1 dx (.own x)) x (.ins C dx [])) (fun v H2 => v = .non ∧ R x H2) E := fun x dx hx hd ne => by
  have s := make_same (o := .own x) (u := .ins C dx []) hx hd ne
  refine ⟨x, dx, xw, dw, rfl, upd_same, hw.same s, fw, fun f hf d H' s' hd' => kE f hf d H' (s.trans s') hd', fun L p q g H' old ga => ⟨rfl, kQ L p q g x H' (fun b o hb => ?_) hx ga⟩⟩
  exact old b o (ne_of_none hb hx) (s b o hb)
theorem mkWG {K : PySem.W.Frag} {H1 : Hp} {C CB : Addr} {R : Addr → Hp → Prop} {E : XK} {xw : V} {dw : PyData} {L : List (List Int)} {p q : Nat} (hw : Jv.Dv K H1 xw dw) (g : GoodW dw L p q)
    (kQ : ∀ r H', Same H1 H' → H1 r = none → WAt K H' C r L p q → R r H') :
    ∀ x dx, H1 x = none → H1 dx = none → dx ≠ x → sp_Weights_init K C CB [.ref x, xw] (upd (upd H1 dx (.own x)) x (.ins C dx [])) (fun v H2 => v = .non ∧ R x H2) E :=
  mkWR hw g.few (fun f hf => by rw [g.nofault] at hf; cases hf) fun L' p' q' g' r H' s n wa => by
    have e3 : L = L' := by rw [← g.dw.rows, ← g'.dw.rows]
    subst e3
    have e4 := g.lines
    rw [g'.lines] at e4
    cases e4
    exact kQ r H' s n wa
def resV : Option Str → V
  | none => .non
  | some f => .str f
def dueD (dw : PyData) : PyData := match faultW dw with
  | some f => .str f
  | none => linW (rowsW dw)
def plusD (L M : List (List Int)) (p q p2 q2 : Nat) : PyData := if p2 = p ∧ q2 = q then dueD (linLw (addW L M)) else .tuple [.str "unlike", .str "sides"]
def timesD (L : List (List Int)) (d : PyData) : PyData := match d with
  | .int b => if 0 ≤ b ∧ b ≤ 1000 then dueD (linLw (mulW b L)) else .str "size"
  | _ => .str "size"
theorem lines_some {dw : PyData} {p q : Nat} (h : Jv.linesD dw = some (p, q)) : ∃ rows, Jv.seqD dw = some rows ∧ rows.length = p ∧ ∀ r ∈ rows, ∃ es, Jv.seqD r = some es ∧ es.length = q := by
  unfold Jv.linesD at h
  cases er : Jv.seqD dw with
  | none => rw [er] at h; cases h
  | some rows =>
    rw [er] at h; dsimp only at h
    cases hb : rows.all (fun e => (Jv.seqD e).isSome) with
    | false => rw [hb, if_neg Bool.false_ne_true] at h; cases h
    | true =>
      rw [hb, if_pos rfl] at h
      refine ⟨rows, rfl, ?_⟩
      cases rows with
      | nil => cases h
      | cons a r =>
        rw [List.map_cons] at h
        dsimp only at h
        split at h
        · rename_i hall
          cases h
          refine ⟨by simp, fun x hx => ?_⟩
          obtain ⟨es, he⟩ := Option.isSome_iff_exists.mp (List.all_eq_true.mp hb x hx)
          refine ⟨es, he, ?_⟩
          rcases List.mem_cons.mp hx with rfl | hx
          · rw [he]; rfl
          · have := List.all_eq_true.mp hall _ (List.mem_map.mpr ⟨x, hx, rfl⟩)
            have := of_decide_eq_true this
            rw [he] at this
            exact this
        · cases h
theorem sides_some {o : Option (Nat × Nat)} (h : Jv.sidesD (sidesOf o) = true) : ∃ p q : Nat, o = some (p, q) ∧ (1 ≤ p ∧ p ≤ 6) ∧ (1 ≤ q ∧ q ≤ 6) ∧ p * q ≤ 12 := by
  cases o with
  | none => cases h
  | some pq =>
    obtain ⟨p, q⟩ := pq
    have h2 := of_decide_eq_true (show decide (((1 : Int) ≤ p ∧ (p : Int) ≤ 6) ∧ ((1 : Int) ≤ q ∧ (q : Int) ≤ 6) ∧ (p : Int) * q ≤ 12) = true from h)
    refine ⟨p, q, rfl, by omega, by omega, ?_⟩
    have := h2.2.2
    exact_mod_cast this
theorem wholeD_num {i lo hi : Int} : Jv.wholeD (.int i) (.int lo) (.int hi) = decide (lo ≤ i ∧ i ≤ hi) := by
  show (decide (lo ≤ i) && decide (i ≤ hi)) = _
  rw [Bool.decide_and]
theorem timesD_no {L : List (List Int)} {d : PyData} (h : Jv.wholeD d (.int 0) (.int 1000) = false) : timesD L d = .str "size" := by
  unfold timesD
  cases d with
  | int b =>
    dsimp only
    rw [wholeD_num] at h
    rw [if_neg (of_decide_eq_false h)]
  | _ => rfl
theorem timesD_yes {L : List (List Int)} {b : Int} (h : 0 ≤ b) (h2 : b ≤ 1000) : timesD L (.int b) = dueD (linLw (mulW b L)) := if_pos ⟨h, h2⟩
theorem dueD_bad {dw : PyData} {f : Str} (h : faultW dw = some f) : dueD dw = .str f := by unfold dueD; rw [h]
theorem GoodW.due {dw : PyData} {L : List (List Int)} {p q : Nat} (g : GoodW dw L p q) : dueD dw = linW L := by unfold dueD; rw [g.nofault, g.dw.rows]
def sp_Ltuples (K : PySem.W.Frag) : Sp := fun vs H Q _ => ∃ x d L, vs = [x] ∧ Jv.Dv K H x d ∧ LineR d L ∧ Jv.few2 d ∧ ∀ r H', Same H H' → Jv.Dv K H' r (linW L) → Q r H'
def sp_Ldue (K : PySem.W.Frag) : Sp := fun vs H Q _ => ∃ xw dw, vs = [xw] ∧ Jv.Dv K H xw dw ∧ Jv.few2 dw ∧ ∀ H', Same H H' → Q (resV (faultW dw)) H'
def sp_Lmade (K : PySem.W.Frag) : Sp := fun vs H Q _ => ∃ xw dw, vs = [xw] ∧ Jv.Dv K H xw dw ∧ Jv.few2 dw ∧ ∀ r H', Same H H' → Jv.Dv K H' r (dueD dw) → Q r H'
def sp_Lplus (K : PySem.W.Frag) (C : Addr) : Sp := fun vs H Q _ => ∃ a b L M, ∃ p q p2 q2 : Nat, vs = [.ref a, .ref b] ∧ WAt K H C a L p q ∧ Gw L p q ∧ WAt K H C b M p2 q2 ∧ Gw M p2 q2 ∧ ∀ r H', Same H H' → Jv.Dv K H' r (plusD L M p q p2 q2) → Q r H'
def sp_Ladded_due (K : PySem.W.Frag) : Sp := fun vs H Q _ => ∃ x y L M, ∃ p q p2 q2 : Nat, vs = [x, y] ∧ Jv.Dv K H x (linLw L) ∧ Gw L p q ∧ Jv.Dv K H y (linLw M) ∧ Gw M p2 q2 ∧ ∀ r H', Same H H' → Jv.Dv K H' r (plusD L M p q p2 q2) → Q r H'
def sp_Ltimes (K : PySem.W.Frag) (C : Addr) : Sp := fun vs H Q _ => ∃ a x d L, ∃ p q : Nat, vs = [.ref a, x] ∧ WAt K H C a L p q ∧ Gw L p q ∧ Jv.Dv K H x d ∧ ∀ r H', Same H H' → Jv.Dv K H' r (timesD L d) → Q r H'
def sp_Leven (K : PySem.W.Frag) : Sp := fun vs H Q _ => ∃ x d, vs = [x] ∧ Jv.Dv K H x d ∧ (Jv.sidesD d = false → ∀ H', Same H H' → Q (.str "sides") H') ∧
  (∀ p q : Nat, Jv.seqD d = some [.int p, .int q] → Jv.sidesD d = true → ∀ r H', Same H H' → Jv.Dv K H' r (linW (List.replicate p (List.replicate q 1))) → Q r H')
def sp_Lrenumbered (K : PySem.W.Frag) (C : Addr) : Sp := fun vs H Q _ => ∃ a sv x L, ∃ p q : Nat, ∃ ds d, vs = [.ref a, sv, x] ∧ WAt K H C a L p q ∧ Gw L p q ∧ Jv.Dv K H sv ds ∧ Jv.Dv K H x d ∧ few60 d ∧
  ((∃ n1, ds = .int 0 ∧ Jv.seqD d = some (n1.map .int) ∧ Jv.orderP p n1 ∧ ∀ r H', Same H H' → Jv.Dv K H' r (linW (rowP L n1)) → Q r H') ∨
   (∃ n1, ds = .int 1 ∧ Jv.seqD d = some (n1.map .int) ∧ Jv.orderP q n1 ∧ ∀ r H', Same H H' → Jv.Dv K H' r (linW (colP L n1)) → Q r H') ∨
   (Jv.wholeD ds (.int 0) (.int 1) = false ∧ ∀ r H', Same H H' → Jv.Dv K H' r (.tuple [.str "side", .none]) → Q r H') ∨
   (∃ s : Int, ((s = 0 ∧ orderD p d = false) ∨ (s = 1 ∧ orderD q d = false)) ∧ ds = .int s ∧ ∀ r H', Same H H' → Jv.Dv K H' r (.tuple [.str "lot", .int s]) → Q r H'))
def sp_Lup_to (K : PySem.W.Frag) : Sp := fun vs H Q _ => ∃ A c, ∃ ns : List Int, vs = [.ref A, .int c] ∧ SqT K H A (ns.map V.int) ∧ ns.length ≤ 100 ∧ ∀ t H', Same H H' → H t = none → H' t = some (.tup ((endsUp ns c).map V.int)) → Q (.ref t) H'
def sp_Las_goals (K : PySem.W.Frag) (CC : Addr) : Sp := fun vs H Q _ => ∃ a c l C, ∃ p q : Nat, vs = [.ref a, .int c] ∧ CAt K H CC a l (linT C) p q ∧ Gc l C p q ∧
  ((∃ line ∈ C, ∃ ns ∈ line, endsUp ns c = []) → ∀ H', Same H H' → Q (.str "wanted") H') ∧
  ((∀ line ∈ C, ∀ ns ∈ line, endsUp ns c ≠ []) → ∀ r H', Same H H' → Jv.Dv K H' r (.tuple [.int l, wantT (upU c C), .tuple [.bool false, .bool false]]) → Q r H')
section
variable {P : Program} {w : World} {K : PySem.W.Frag} {mg : Str → Option Value} {base : Heap}
theorem ok_Ltuples (T : Tx) (O : Ok K mg T) : FnOk P w K mg base CX0 1 T.f_Ltuples T.d_Ltuples ["_law_lines"] (sp_Ltuples K) := by
  refine O.F_Ltuples.ok sc_Ltuples (fun vs H Q E h => by obtain ⟨_, _, _, rfl, _⟩ := h; rfl) (fun cdv A outer s H vs Q E hr h => ?_)
  obtain ⟨x, d, L, rfl, hx, hd, fw, k⟩ := h
  refine ⟨_, (pss_one (ps_ret (pe_callTy (r := Jv.rTupOf K) call_tuple_of (by rfl) O.z_tuple (by decide +kernel) (pa_cons (pe_lc (own := [("_law_line", 1)]) (by rfl) sc_Ltuples.nd (Jv.piOr (show PI _ _ _ (iList K _) from pi_list (pv 0)) (show PI _ _ _ (iTup K _) from pi_tup (pv 0))) (blkOk_by (own := [("_law_line", 1)]) (N := ["_law_lines", "_law_line"]) (sc := defScope s_Ltuples) (scope := ({ kind := .function, names := [(".0", .local), ("_law_line", .local), ("tuple", .globalImplicit)], isGenerator := false, isCoroutine := false } : Scope)) (by decide +kernel)) (fun _ _ _ _ _ => (pg_name (i := 1) sc_Ltuples.nd rfl (Or.inl rfl))) (fun _ _ _ _ _ => pts_nil) (fun _ _ _ _ _ => (pe_callTy (r := Jv.rTupOf K) call_tuple_of (by rfl) O.z_tuple (by decide +kernel) (pa_cons (pv 1) pa_nil)))) pa_nil)))), ?_⟩
  walk_at "r"
  obtain ⟨rows, er, pr⟩ := hd
  obtain ⟨ws, skW, alW⟩ := hx.sk er
  have lws := alW.len
  have lpr := Paired.length pr
  have f1 := (fw rows er).1
  refine Jv.lcS2 (K := K) (N := []) (j := 1) (i := 0) rfl skW .nil (L.map rowW) (by rw [List.length_map]; omega) (by omega) (fun i v e D1 H6 hi hv he s6 hN1 hD1 PP hP => ?_) (fun D1 ys H6 s6 hD1 eD1 dv1 _ => ?_)
  · obtain ⟨r, hr, dr⟩ := alW.at hv
    obtain ⟨line, hline, hLR⟩ := pairAt pr hr
    rw [List.getElem?_map, hline] at he
    obtain rfl := Option.some.inj he
    have du1 : Jv.Dv K (Jv.hide [D1] H6) v r := by
      have := dr
      rw [← Jv.hide_nil (H := H)] at this
      exact this.same (Jv.hide_more s6 hD1)
    walk_at "r"
    cases du1 with
    | lst h q =>
      cases hLR
      exact Jv.r_tupOfL (Jv.sqL_at (Jv.hide_some h).2) fun t2 ht2 => hP _ _ (Jv.same_new ht2) (Jv.dv_new ht2 hN1 q)
    | tup h q =>
      cases hLR
      exact Jv.r_tupOfT (Jv.Same.sqT Jv.hide_le h) (hP _ _ (Same.refl _) (.tup h q))
    | _ => cases hLR
  · walk_at "r"
    refine ⟨D1, _, rfl, .inl ⟨Jv.sqL_at eD1, fun t2 ht2 => ?_⟩⟩
    rw [Jv.hide_nil] at dv1
    exact k _ _ (s6.trans (Jv.same_new ht2)) (.tup (Jv.sqT_at upd_same) (dv1.same (Jv.same_new ht2)))
theorem ok_Ldue (T : Tx) (O : Ok K mg T) : FnOk P w K mg base CX0 2 T.f_Ldue T.d_Ldue ["_law_lines"] (sp_Ldue K) := by
  refine O.F_Ldue.ok sc_Ldue (fun vs H Q E h => by obtain ⟨_, _, rfl, _⟩ := h; rfl) (fun cdv A outer s H vs Q E hr h => ?_)
  obtain ⟨xw, dw, rfl, hw, fw, k⟩ := h
  refine ⟨_, (pss_cons (ps_if (PW.pt (pw_or (pt_not (pt_val (pe_callB (r := rIsiT K) call_isiT (by rfl) O.z_isinstance (by decide +kernel) (pa_cons (pv 0) (pa_cons (pe_tup (pa_cons (pe_bltn (v := .ty "list") (by rfl) O.z_list (by decide +kernel) rfl) (pa_cons (pe_bltn (v := .ty "tuple") (by rfl) O.z_tuple (by decide +kernel) rfl) pa_nil))) pa_nil))))) (pw_or1 (pt_not (pt_chain op_le op_le pe_int (pe_callB (r := Jv.rLenK K) Jv.cr_len (by rfl) O.z_len (by decide +kernel) (pa_cons (pv 0) pa_nil)) pe_int))))) (pss_one (ps_ret pe_str)) pss_nil)
  (pss_cons (ps_for PassesOwn.never rfl (Jv.piOr (show PI _ _ _ (iList K _) from pi_list (pv 0)) (show PI _ _ _ (iTup K _) from pi_tup (pv 0))) (pg_name (i := 1) sc_Ldue.nd rfl (Or.inl rfl)) (pss_one (ps_if (PW.pt (pw_or (pt_not (pt_val (pe_callB (r := rIsiT K) call_isiT (by rfl) O.z_isinstance (by decide +kernel) (pa_cons (pv 1) (pa_cons (pe_tup (pa_cons (pe_bltn (v := .ty "list") (by rfl) O.z_list (by decide +kernel) rfl) (pa_cons (pe_bltn (v := .ty "tuple") (by rfl) O.z_tuple (by decide +kernel) rfl) pa_nil))) pa_nil))))) (pw_or (pt_not (pt_chain op_le op_le pe_int (pe_callB (r := Jv.rLenK K) Jv.cr_len (by rfl) O.z_len (by decide +kernel) (pa_cons (pv 1) pa_nil)) pe_int)) (pw_or1 (pt_cmpR op_ne (pe_callB (r := Jv.rLenK K) Jv.cr_len (by rfl) O.z_len (by decide +kernel) (pa_cons (pv 1) pa_nil)) (pe_callB (r := Jv.rLenK K) Jv.cr_len (by rfl) O.z_len (by decide +kernel) (pa_cons (pe_ix (r := rIx K) ix_seq (pv 0) pe_int (fun _ _ => rfl)) pa_nil)) (nomark _)))))) (pss_one (ps_ret pe_str)) pss_nil)))
  (pss_cons (ps_if (pt_cmpR op_gt (pe_op op_mul (pe_callB (r := Jv.rLenK K) Jv.cr_len (by rfl) O.z_len (by decide +kernel) (pa_cons (pv 0) pa_nil)) (pe_callB (r := Jv.rLenK K) Jv.cr_len (by rfl) O.z_len (by decide +kernel) (pa_cons (pe_ix (r := rIx K) ix_seq (pv 0) pe_int (fun _ _ => rfl)) pa_nil))) pe_int (nomark _)) (pss_one (ps_ret pe_str)) pss_nil)
  (pss_cons (ps_for PassesOwn.never rfl (Jv.piOr (show PI _ _ _ (iList K _) from pi_list (pv 0)) (show PI _ _ _ (iTup K _) from pi_tup (pv 0))) (pg_name (i := 1) sc_Ldue.nd rfl (Or.inl rfl)) (pss_one (ps_for PassesOwn.never rfl (Jv.piOr (show PI _ _ _ (iList K _) from pi_list (pv 1)) (show PI _ _ _ (iTup K _) from pi_tup (pv 1))) (pg_name (i := 2) sc_Ldue.nd rfl (Or.inl rfl)) (pss_one (ps_if (PW.pt (pw_or (pt_not (pt_val (pe_call (ok_Lwhole T O) (hr.mono (by decide)) (by rfl) O.m_Lwhole O.F_Lwhole.kp O.b_Lwhole .nil pass0 (pa_cons (pv 2) pa_nil)))) (pw_or1 (pt_not (pt_chain op_le op_le pe_int (pv 2) (pe_op op_pow pe_int pe_int)))))) (pss_one (ps_ret pe_str)) pss_nil)))))
  (pss_one (ps_ret pe_non)))))), ?_⟩
  have kb : ∀ f H', faultW dw = some f → Same H H' → Q (.str f) H' := fun f H' e s => by have := k H' s; rw [e] at this; exact this
  have kn : faultW dw = none → ∀ H', Same H H' → Q .non H' := fun e H' s => by have := k H' s; rw [e] at this; exact this
  walk_at "r"
  intro t1 ht1
  have n1 := Jv.same_new (u := .tup [.ty "list", .ty "tuple"]) ht1
  have hw1 := hw.same n1
  walk_at "r"
  have sd : (∀ p q : Nat, Jv.linesD dw = some (p, q) → (1 ≤ p ∧ p ≤ 6) → (1 ≤ q ∧ q ≤ 6) → p * q ≤ 12 → False) → faultW dw = some ("sides" : Str) := fun n => by
    unfold faultW
    rw [if_pos]
    cases e : Jv.sidesD (sidesOf (Jv.linesD dw)) with
    | false => rfl
    | true => obtain ⟨p, q, e1, e2, e3, e4⟩ := sides_some e; exact (n p q e1 e2 e3 e4).elim
  cases er : Jv.seqD dw with
  | none =>
    walk_at "r"
    refine kb _ _ (sd fun p q e _ _ _ => ?_) n1
    obtain ⟨rows, e2, _⟩ := lines_some e
    rw [er] at e2; cases e2
  | some rows =>
  obtain ⟨fr1, fr2⟩ := fw rows er
  obtain ⟨xs, skw, alw⟩ := hw1.sk er
  have lxs := alw.len
  have noS : (rows.length < 1 ∨ 6 < rows.length) → faultW dw = some ("sides" : Str) := fun n => sd fun p q e hp _ _ => by
    obtain ⟨rows', e2, e3, _⟩ := lines_some e
    rw [er] at e2; cases e2
    omega
  walk_at "r"
  refine skw.len ?_
  walk_at "r"
  refine Jv.r_dec (fun c0 => ?_) (fun c0 => ?_)
  case refine_2 =>
    walk_at "r"
    exact kb _ _ (noS (by omega)) n1
  walk_at "r"
  refine Jv.r_ndec (fun c6 => ?_) (fun c6 => ?_)
  · walk_at "r"
    exact kb _ _ (noS (by omega)) n1
  walk_at "r"
  obtain ⟨r0, rest, hrw⟩ : ∃ r0 rest, rows = r0 :: rest := by
    have c1 : 1 ≤ rows.length := by omega
    cases rows with
    | nil => simp at c1
    | cons a r => exact ⟨a, r, rfl⟩
  have h00 : rows[0]? = some r0 := by rw [hrw]; rfl
  obtain ⟨v0, hv0, dv0⟩ := alw.of h00
  have noRow : ∀ r ∈ rows, (∀ q : Nat, (∃ es, Jv.seqD r = some es ∧ es.length = q) → (∃ es0, Jv.seqD r0 = some es0 ∧ es0.length = q) → 1 ≤ q → q ≤ 6 → False) → faultW dw = some ("sides" : Str) := fun r hm n => sd fun p q e hp hq _ => by
    obtain ⟨rows', e2, e3, e4⟩ := lines_some e
    rw [er] at e2; cases e2
    exact n q (e4 r hm) (e4 r0 (List.mem_of_getElem? h00)) hq.1 hq.2
  refine Jv.for_sk (i := 0) rfl skw (fun j σ H2 => ∃ y2, σ = [some xw, y2, none] ∧ Same (upd H t1 (.tup [.ty "list", .ty "tuple"])) H2 ∧ ∀ r ∈ rows.take j, ∃ es, Jv.seqD r = some es ∧ (1 ≤ es.length ∧ es.length ≤ 6) ∧ ∃ es0, Jv.seqD r0 = some es0 ∧ es.length = es0.length)
    ⟨_, rfl, fun _ _ e => e, fun _ hm => (by simp at hm)⟩ (fun j σ' H' ⟨_, _, s, _⟩ => s) ?_ ?_
  · rintro j v σ H2 hv ⟨y2, rfl, s2, ok⟩
    obtain ⟨r, hr, dr⟩ := alw.at hv
    have hrm := List.mem_of_getElem? hr
    walk_at "r"
    intro t2 ht2
    have n2 := Jv.same_new (u := .tup [.ty "list", .ty "tuple"]) ht2
    have dr2 := (dr.same s2).same n2
    have sx := n1.trans (s2.trans n2)
    walk_at "r"
    cases er2 : Jv.seqD r with
    | none =>
      walk_at "r"
      exact kb _ _ (noRow r hrm fun q ⟨es, h, _⟩ _ _ _ => by rw [er2] at h; cases h) sx
    | some es =>
    obtain ⟨us, sku, alu⟩ := dr2.sk er2
    have lus := alu.len
    walk_at "r"
    refine sku.len ?_
    walk_at "r"
    refine Jv.r_dec (fun d0 => ?_) (fun d0 => ?_)
    case refine_2 =>
      walk_at "r"
      exact kb _ _ (noRow r hrm fun q ⟨es2, h, h2⟩ _ h3 _ => by rw [er2] at h; cases h; omega) sx
    walk_at "r"
    refine Jv.r_ndec (fun d6 => ?_) (fun d6 => ?_)
    · walk_at "r"
      exact kb _ _ (noRow r hrm fun q ⟨es2, h, h2⟩ _ _ h4 => by rw [er2] at h; cases h; omega) sx
    walk_at "r"
    refine sku.len ?_
    walk_at "r"
    refine ((skw.same s2).same n2).ix (Jv.at_i (k := 0) (by decide) hv0) ?_
    walk_at "r"
    obtain ⟨es0, he0⟩ : ∃ es0, Jv.seqD r0 = some es0 := by
      cases j with
      | zero => rw [h00] at hr; cases hr; exact ⟨es, er2⟩
      | succ j =>
        obtain ⟨_, _, _, es0, h, _⟩ := ok r0 (by rw [hrw]; exact List.mem_cons_self)
        exact ⟨es0, h⟩
    obtain ⟨us0, sk0, al0⟩ := ((dv0.same s2).same n2).sk he0
    have lu0 := al0.len
    refine sk0.len ?_
    walk_at "r"
    refine Jv.r_ndecI (fun ne => ?_) (fun eq => ?_)
    · walk_at "r"
      exact kb _ _ (noRow r hrm fun q ⟨es2, h, h2⟩ ⟨es3, h3, h4⟩ _ _ => by rw [er2] at h; cases h; rw [he0] at h3; cases h3; omega) sx
    · walk_at "r"
      refine ⟨_, rfl, s2.trans n2, fun r' hm' => ?_⟩
      rw [Jv.take_more hr] at hm'
      rcases List.mem_append.mp hm' with hm' | hm'
      · exact ok r' hm'
      · rw [List.mem_singleton.mp hm']
        exact ⟨es, er2, ⟨by omega, by omega⟩, es0, he0, by omega⟩
  · rintro σ H2 ⟨y2, rfl, s2, ok⟩
    rw [lxs, List.take_of_length_le (Nat.le_refl _)] at ok
    obtain ⟨es0, he0, c2, _⟩ := ok r0 (List.mem_of_getElem? h00)
    obtain ⟨us0, sk0, al0⟩ := (dv0.same s2).sk he0
    have lu0 := al0.len
    have lin : Jv.linesD dw = some (rows.length, es0.length) := by
      unfold Jv.linesD
      rw [er]; dsimp only
      have hall : (rows.all fun e => (Jv.seqD e).isSome) = true := List.all_eq_true.mpr fun r hm => by
        obtain ⟨es, h, _⟩ := ok r hm
        rw [h]; rfl
      rw [hall, if_pos rfl]
      have e1 : rows.map (fun e => ((Jv.seqD e).getD []).length) = List.replicate rows.length es0.length := by
        refine List.eq_replicate_iff.mpr ⟨by rw [List.length_map], fun m hm => ?_⟩
        obtain ⟨r, hr, rfl⟩ := List.mem_map.mp hm
        obtain ⟨es, h, _, es1, h1, h2⟩ := ok r hr
        rw [he0] at h1; cases h1
        rw [h]; exact h2
      rw [e1, hrw, List.length_cons, List.replicate_succ]
      dsimp only
      rw [if_pos (List.all_eq_true.mpr fun m hm => decide_eq_true (List.eq_of_mem_replicate hm)), List.length_replicate]
    walk_at "r"
    refine (skw.same s2).len ?_
    walk_at "r"
    refine (skw.same s2).ix (Jv.at_i (k := 0) (by decide) hv0) ?_
    walk_at "r"
    refine sk0.len ?_
    walk_at "r"
    have s02 := n1.trans s2
    refine Jv.r_dec (fun big => ?_) (fun big => ?_)
    · walk_at "r"
      refine kb _ _ (sd fun p q e _ _ h => ?_) s02
      rw [lin] at e; cases e
      rw [← lxs, ← lu0] at h
      have h2 : ((xs.length * us0.length : Nat) : Int) ≤ 12 := by exact_mod_cast h
      rw [Int.natCast_mul] at h2
      exact Int.not_lt.mpr h2 big
    have hs : Jv.sidesD (sidesOf (Jv.linesD dw)) = true := by
      rw [lin]
      show decide _ = true
      have h2 := Int.not_lt.mp big
      rw [lxs, lu0] at h2
      exact decide_eq_true ⟨⟨by omega, by omega⟩, ⟨by omega, by omega⟩, h2⟩
    have fE : ∀ x, faultW dw = x ↔ (if allW dw = false then some ("weight" : Str) else none) = x := fun x => by unfold faultW; rw [hs, if_neg (by decide)]
    have noE : ∀ r ∈ rows, ∀ e es, Jv.seqD r = some es → e ∈ es → Jv.wholeD e (.int 0) (.int 1000000) = false → faultW dw = some ("weight" : Str) := fun r hm e es h1 h2 h3 => by
      rw [fE, if_pos]
      cases ha : allW dw with
      | false => rfl
      | true =>
        unfold allW at ha
        rw [er] at ha
        have := List.all_eq_true.mp ha e (List.mem_flatMap.mpr ⟨r, hm, by rw [h1]; exact h2⟩)
        rw [h3] at this; cases this
    walk_at "r"
    refine Jv.for_sk (i := 0) rfl (skw.same s2) (fun j σ H3 => ∃ y2 y3, σ = [some xw, y2, y3] ∧ Same H2 H3 ∧ ∀ r ∈ rows.take j, ∀ es, Jv.seqD r = some es → ∀ e ∈ es, Jv.wholeD e (.int 0) (.int 1000000) = true)
      ⟨_, _, rfl, fun _ _ e => e, fun _ hm => (by simp at hm)⟩ (fun j σ' H' ⟨_, _, _, s, _⟩ => s) ?_ ?_
    · rintro j v σ H3 hv ⟨y2', y3, rfl, s3, okE⟩
      obtain ⟨r, hr, dr⟩ := alw.at hv
      have hrm := List.mem_of_getElem? hr
      obtain ⟨es, he, _⟩ := ok r hrm
      obtain ⟨us, sku, alu⟩ := ((dr.same s2).same s3).sk he
      have lus := alu.len
      walk_at "r"
      refine Jv.for_sk (i := 1) rfl sku (fun j2 σ H4 => ∃ y3, σ = [some xw, some v, y3] ∧ Same H3 H4 ∧ ∀ e ∈ es.take j2, Jv.wholeD e (.int 0) (.int 1000000) = true)
        ⟨_, rfl, fun _ _ e => e, fun _ hm => (by simp at hm)⟩ (fun j σ' H' ⟨_, _, s, _⟩ => s) ?_ ?_
      · rintro j2 u σ H4 hu ⟨y3', rfl, s4, okD⟩
        obtain ⟨d, hee, du⟩ := alu.at hu
        have hem := List.mem_of_getElem? hee
        have dz := du.same s4
        have sy := s02.trans (s3.trans s4)
        have bad : Jv.wholeD d (.int 0) (.int 1000000) = false → faultW dw = some ("weight" : Str) := fun h => noE r hrm d es he hem h
        walk_at "r"
        refine ⟨_, _, rfl, dz, ?_⟩
        by_cases hi : ∃ i, d = .int i
        · obtain ⟨i, rfl⟩ := hi
          cases dz
          walk_at "r"
          refine Jv.r_dec (fun i0 => ?_) (fun i0 => ?_)
          case refine_2 =>
            walk_at "r"
            exact kb _ _ (bad (Jv.wholeD_no (by omega))) sy
          walk_at "r"
          refine Jv.r_ndec (fun i6 => ?_) (fun i6 => ?_)
          · walk_at "r"
            rw [show ((10 : Int) ^ Int.toNat 6) = 1000000 from by decide] at i6
            exact kb _ _ (bad (Jv.wholeD_no (by omega))) sy
          rw [show ((10 : Int) ^ Int.toNat 6) = 1000000 from by decide] at i6
          walk_at "r"
          refine ⟨_, rfl, s4, fun d' hm' => ?_⟩
          rw [Jv.take_more hee] at hm'
          rcases List.mem_append.mp hm' with hm' | hm'
          · exact okD d' hm'
          · rw [List.mem_singleton.mp hm']
            show (decide (0 ≤ i) && decide (i ≤ 1000000)) = true
            rw [decide_eq_true i0, decide_eq_true (show i ≤ 1000000 from i6)]; rfl
        · have e2 : Jv.intD d = false := by
            cases d with
            | int l => exact absurd ⟨l, rfl⟩ hi
            | _ => rfl
          have e3 : Jv.wholeD d (.int 0) (.int 1000000) = false := by
            cases d with
            | int l => exact absurd ⟨l, rfl⟩ hi
            | _ => rfl
          rw [e2]
          walk_at "r"
          exact kb _ _ (bad e3) sy
      · rintro σ H4 ⟨y3', rfl, s4, okD⟩
        rw [lus, List.take_of_length_le (Nat.le_refl _)] at okD
        walk_at "r"
        refine ⟨_, _, rfl, s3.trans s4, fun r' hm' => ?_⟩
        rw [Jv.take_more hr] at hm'
        rcases List.mem_append.mp hm' with hm' | hm'
        · exact okE r' hm'
        · rw [List.mem_singleton.mp hm']
          intro es' h
          rw [he] at h; cases h
          exact okD
    · rintro σ H3 ⟨y2', y3, rfl, s3, okE⟩
      rw [lxs, List.take_of_length_le (Nat.le_refl _)] at okE
      walk_at "r"
      refine kn ?_ _ (s02.trans s3)
      rw [fE, if_neg]
      rw [Bool.not_eq_false]
      unfold allW
      rw [er]
      refine List.all_eq_true.mpr fun e hm => ?_
      obtain ⟨r, hr, he⟩ := List.mem_flatMap.mp hm
      obtain ⟨es, h, _⟩ := ok r hr
      rw [h] at he
      exact okE r hr es h e he
theorem ok_Lmade (T : Tx) (O : Ok K mg T) : FnOk P w K mg base CX0 5 T.f_Lmade T.d_Lmade ["_law_lines"] (sp_Lmade K) := by
  refine O.F_Lmade.ok sc_Lmade (fun vs H Q E h => by obtain ⟨_, _, rfl, _⟩ := h; rfl) (fun cdv A outer s H vs Q E hr h => ?_)
  obtain ⟨xw, dw, rfl, hw, fw, k⟩ := h
  refine ⟨_, (pss_one (ps_try_as (i := 1) rfl rfl sc_Lmade.nd rfl rfl ⟨rfl, by decide, .inl O.m_BadWeights⟩ takes0 (fun W pn xe tk _ => (pss_one (ps_ret (show PE _ _ (tFld K _ _) from pe_fld (Jv.pe_makeX O.k_Weights (ok_Weightsu_initu T O) (hr.mono (by decide)) (by rfl) O.m_Weights O.b_Weightsu_initu .nil (fun σ => passAt tk σ) (pa_cons (pv 0) pa_nil)) rfl)))) (fun a oe cls d pn hz hf => (pss_one (ps_ret (pe_xf O.x_BadWeights.f O.n_BadWeights_what hz hf (pv 1))))))), ?_⟩
  walk_at "r"
  refine Jv.r_fld ?_
  refine Jv.r_makeX ?_
  walk_at "r"
  refine mkWR hw fw (fun f hf e H1 s1 hd => ?_) fun L p q g r H1 s1 _ ga => ?_
  · refine ⟨true, O.x_BadWeights.e, fun _ a ha => ?_, fun z => nomatch z⟩
    walk_at "r"
    refine ⟨_, rfl, rfl, rfl, e, _, _, rfl, hd, rfl, ?_⟩
    rw [dueD_bad hf] at k
    exact k _ _ s1 (.str _)
  · obtain ⟨dx1, wv1, tv1, hr1, hW1, _⟩ := ga
    rw [g.due] at k
    exact ⟨r, _, dx1, _, _, rfl, hr1, O.o_Weights, O.n_Weights_lines, rfl, k _ _ s1 hW1⟩
theorem ok_Lmade_due (T : Tx) (O : Ok K mg T) : FnOk P w K mg base CX0 3 T.f_Lmade_due T.d_Lmade_due ["_law_lines"] (sp_Lmade K) := by
  refine O.F_Lmade_due.ok sc_Lmade_due (fun vs H Q E h => by obtain ⟨_, _, rfl, _⟩ := h; rfl) (fun cdv A outer s H vs Q E hr h => ?_)
  obtain ⟨xw, dw, rfl, hw, fw, k⟩ := h
  refine ⟨_, (pss_cons (ps_set (i := 1) sc_Lmade_due.nd rfl (Or.inl rfl) (pe_call (ok_Ldue T O) (hr.mono (by decide)) (by rfl) O.m_Ldue O.F_Ldue.kp O.b_Ldue .nil pass0 (pa_cons (pv 0) pa_nil)))
  (pss_one (ps_ret (pe_ifExp (pt_cmpR op_isN (pv 1) pe_non (nomark _)) (pe_call (ok_Ltuples T O) (hr.mono (by decide)) (by rfl) O.m_Ltuples O.F_Ltuples.kp O.b_Ltuples .nil pass0 (pa_cons (pv 0) pa_nil)) (pv 1))))), ?_⟩
  walk_at "r"
  refine ⟨_, _, rfl, hw, fw, fun H1 s1 => ?_⟩
  walk_at "r"
  cases ef : faultW dw with
  | none =>
    obtain ⟨p, q, g⟩ := good_of ef
    rw [g.due] at k
    walk_at "r"
    refine ⟨_, _, _, rfl, hw.same s1, g.dw, fw, fun r H2 s2 dv => ?_⟩
    exact k _ _ (s1.trans s2) dv
  | some f =>
    rw [dueD_bad ef] at k
    walk_at "r"
    exact k _ _ s1 (.str _)
theorem ok_Lplus (T : Tx) (O : Ok K mg T) : FnOk P w K mg base CX0 6 T.f_Lplus T.d_Lplus ["_law_one", "_law_other"] (sp_Lplus K T.C_Weights) := by
  refine O.F_Lplus.ok sc_Lplus (fun vs H Q E h => by obtain ⟨_, _, _, _, _, _, _, _, rfl, _⟩ := h; rfl) (fun cdv A outer s H vs Q E hr h => ?_)
  obtain ⟨a, b, L, M, p, q, p2, q2, rfl, ha, hw, hb, hm, k⟩ := h
  refine ⟨_, (pss_one (Jv.ps_tryMix rfl rfl takes0 (Jv.Cls2.named (i := 2) sc_Lplus.nd rfl rfl ⟨rfl, by decide, .inl O.m_NotAlike⟩ (fun a oe cls d pn hz hf => (pss_one (ps_ret (pe_tup (pa_cons pe_str (pa_cons (pe_xf O.x_NotAlike.f O.n_NotAlike_what hz hf (pv 2)) pa_nil)))))) (Jv.Cls2.named (i := 2) sc_Lplus.nd rfl rfl ⟨rfl, by decide, .inl O.m_BadWeights⟩ (fun a oe cls d pn hz hf => (pss_one (ps_ret (pe_xf O.x_BadWeights.f O.n_BadWeights_what hz hf (pv 2))))) Jv.Cls2.nil)) (fun W pn xe tk _ => (pss_one (ps_ret (show PE _ _ (tFld K _ _) from pe_fld (Jv.pe_methX (pv 0) O.o_Weights O.h_Weights_plus (ok_Weights_plus T O) (hr.mono (by decide)) O.b_Weights_plus .nil (fun σ => passAt tk σ) (pa_cons (pv 1) pa_nil)) rfl)))))), ?_⟩
  obtain ⟨dx, wv, tv, hca, _⟩ := id ha
  walk_at "r"
  refine Jv.r_fld ?_
  refine Jv.r_methC ?_
  walk_at "r"
  refine ⟨a, dx, _, rfl, hca, rfl, ?_⟩
  walk_at "r"
  refine ⟨a, b, L, M, p, q, p2, q2, rfl, ha, hw, hb, hm, fun n e H1 s1 hd => ?_, fun y => ⟨fun f hf e H1 s1 hd => ?_, fun p' q' g r H1 s1 ga => ?_⟩⟩
  · refine ⟨true, O.x_NotAlike.e, fun _ a ha => ?_, fun z => nomatch z⟩
    walk_at "r"
    refine ⟨_, rfl, rfl, rfl, e, _, _, rfl, hd, rfl, ?_⟩
    walk_at "r"
    exact fun r hr => k _ _ (s1.trans (Jv.same_new hr)) (by unfold plusD; rw [if_neg n]; exact .tup (Jv.sqT_at upd_same) (.cons (.str _) (.cons (.str _) .nil)))
  · refine ⟨false, O.x_NotAlike.no O.u_BadWeights_NotAlike, fun z => (nomatch z), fun _ => ?_⟩
    refine ⟨true, O.x_BadWeights.e, fun _ a ha => ?_, fun z => nomatch z⟩
    walk_at "r"
    refine ⟨_, rfl, rfl, rfl, e, _, _, rfl, hd, rfl, ?_⟩
    exact k _ _ s1 (by unfold plusD; rw [if_pos y, dueD_bad hf]; exact .str _)
  · obtain ⟨dx1, wv1, tv1, hr1, hW1, _⟩ := ga
    exact ⟨r, _, dx1, _, _, rfl, hr1, O.o_Weights, O.n_Weights_lines, rfl, k _ _ s1 (by unfold plusD; rw [if_pos y, g.due]; exact hW1)⟩
theorem ok_Ltimes (T : Tx) (O : Ok K mg T) : FnOk P w K mg base CX0 6 T.f_Ltimes T.d_Ltimes ["_law_one", "_law_size"] (sp_Ltimes K T.C_Weights) := by
  refine O.F_Ltimes.ok sc_Ltimes (fun vs H Q E h => by obtain ⟨_, _, _, _, _, _, rfl, _⟩ := h; rfl) (fun cdv A outer s H vs Q E hr h => ?_)
  obtain ⟨a, x, d, L, p, q, rfl, ha, hw, hx, k⟩ := h
  refine ⟨_, (pss_one (ps_try_as (i := 2) rfl rfl sc_Ltimes.nd rfl rfl ⟨rfl, by decide, .inl O.m_BadWeights⟩ takes0 (fun W pn xe tk _ => (pss_one (ps_ret (show PE _ _ (tFld K _ _) from pe_fld (Jv.pe_methX (pv 0) O.o_Weights O.h_Weights_times (ok_Weights_times T O) (hr.mono (by decide)) O.b_Weights_times .nil (fun σ => passAt tk σ) (pa_cons (pv 1) pa_nil)) rfl)))) (fun a oe cls d pn hz hf => (pss_one (ps_ret (pe_xf O.x_BadWeights.f O.n_BadWeights_what hz hf (pv 2))))))), ?_⟩
  obtain ⟨dx, wv, tv, hca, _⟩ := id ha
  walk_at "r"
  refine Jv.r_fld ?_
  refine Jv.r_methC ?_
  walk_at "r"
  refine ⟨a, dx, _, rfl, hca, rfl, ?_⟩
  walk_at "r"
  refine ⟨a, x, d, L, p, q, rfl, ha, hw, hx, fun n e H1 s1 hd => ?_, fun b eb b0 b1 => ⟨fun f hf e H1 s1 hd => ?_, fun p' q' g r H1 s1 ga => ?_⟩⟩
  · refine ⟨true, O.x_BadWeights.e, fun _ a ha => ?_, fun z => nomatch z⟩
    walk_at "r"
    refine ⟨_, rfl, rfl, rfl, e, _, _, rfl, hd, rfl, ?_⟩
    exact k _ _ s1 (by rw [timesD_no n]; exact .str _)
  · subst eb
    refine ⟨true, O.x_BadWeights.e, fun _ a ha => ?_, fun z => nomatch z⟩
    walk_at "r"
    refine ⟨_, rfl, rfl, rfl, e, _, _, rfl, hd, rfl, ?_⟩
    exact k _ _ s1 (by rw [timesD_yes b0 b1, dueD_bad hf]; exact .str _)
  · subst eb
    obtain ⟨dx1, wv1, tv1, hr1, hW1, _⟩ := ga
    exact ⟨r, _, dx1, _, _, rfl, hr1, O.o_Weights, O.n_Weights_lines, rfl, k _ _ s1 (by rw [timesD_yes b0 b1, g.due]; exact hW1)⟩
theorem ok_Leven (T : Tx) (O : Ok K mg T) : FnOk P w K mg base CX0 6 T.f_Leven T.d_Leven ["_law_sides"] (sp_Leven K) := by
  refine O.F_Leven.ok sc_Leven (fun vs H Q E h => by obtain ⟨_, _, rfl, _⟩ := h; rfl) (fun cdv A outer s H vs Q E hr h => ?_)
  obtain ⟨x, d, rfl, hx, k1, k2⟩ := h
  refine ⟨_, (pss_one (ps_try_as (i := 1) rfl rfl sc_Leven.nd rfl rfl ⟨rfl, by decide, .inl O.m_BadWeights⟩ takes0 (fun W pn xe tk _ => (pss_one (ps_ret (show PE _ _ (tFld K _ _) from pe_fld (Jv.pe_smethX (pe_glob (v := .ref _) (by rfl) O.m_Weights rfl) O.s_Weights_even (ok_Weights_even T O) (hr.mono (by decide)) O.b_Weights_even .nil (fun σ => passAt tk σ) (pa_cons (pv 0) pa_nil)) rfl)))) (fun a oe cls d pn hz hf => (pss_one (ps_ret (pe_xf O.x_BadWeights.f O.n_BadWeights_what hz hf (pv 1))))))), ?_⟩
  walk_at "r"
  refine Jv.r_fld ?_
  refine Jv.r_smethX ?_
  walk_at "r"
  refine ⟨x, d, rfl, hx, fun h e H1 s1 hd => ?_, fun p q ed es r H1 s1 ga => ?_⟩
  · refine ⟨true, O.x_BadWeights.e, fun _ a ha => ?_, fun z => nomatch z⟩
    walk_at "r"
    refine ⟨_, rfl, rfl, rfl, e, _, _, rfl, hd, rfl, ?_⟩
    exact k1 h _ s1
  · obtain ⟨dx1, wv1, tv1, hr1, hW1, _⟩ := ga
    exact ⟨r, _, dx1, _, _, rfl, hr1, O.o_Weights, O.n_Weights_lines, rfl, k2 p q ed es _ _ s1 hW1⟩
theorem ok_Lrenumbered (T : Tx) (O : Ok K mg T) : FnOk P w K mg base CX0 6 T.f_Lrenumbered T.d_Lrenumbered ["_law_weights_here", "_law_side", "_law_order_here"] (sp_Lrenumbered K T.C_Weights) := by
  refine O.F_Lrenumbered.ok sc_Lrenumbered (fun vs H Q E h => by obtain ⟨_, _, _, _, _, _, _, _, rfl, _⟩ := h; rfl) (fun cdv A outer s H vs Q E hr h => ?_)
  obtain ⟨a, sv, x, L, p, q, ds, d, rfl, hc, hw, hs, hx, f1, qq⟩ := h
  refine ⟨_, (pss_one (Jv.ps_tryMix rfl rfl takes0 (Jv.Cls2.bare ⟨rfl, by decide, .inl O.m_BadSide⟩ (fun a oe cls d pn _ _ => (pss_one (ps_ret (pe_tup (pa_cons pe_str (pa_cons pe_non pa_nil)))))) (Jv.Cls2.named (i := 3) sc_Lrenumbered.nd rfl rfl ⟨rfl, by decide, .inl O.m_BadLot⟩ (fun a oe cls d pn hz hf => (pss_one (ps_ret (pe_tup (pa_cons pe_str (pa_cons (pe_xf O.x_BadLot.f O.n_BadLot_side hz hf (pv 3)) pa_nil)))))) Jv.Cls2.nil)) (fun W pn xe tk _ => (pss_one (ps_ret (show PE _ _ (tFld K _ _) from pe_fld (Jv.pe_methX (pv 0) O.o_Weights O.h_Weights_renumbered (ok_Weights_renumbered T O) (hr.mono (by decide)) O.b_Weights_renumbered .nil (fun σ => passAt tk σ) (pa_cons (pv 1) (pa_cons (pv 2) pa_nil))) rfl)))))), ?_⟩
  obtain ⟨dx, wv, tv, hca, _⟩ := id hc
  walk_at "r"
  refine Jv.r_fld ?_
  refine Jv.r_methC ?_
  walk_at "r"
  refine ⟨a, dx, _, rfl, hca, rfl, ?_⟩
  walk_at "r"
  refine ⟨a, sv, x, L, p, q, ds, d, rfl, hc, hw, hs, hx, f1, ?_⟩
  rcases qq with ⟨n1, rfl, e1, h1, k⟩ | ⟨n1, rfl, e1, h1, k⟩ | ⟨hf, k⟩ | ⟨s0, h, rfl, k⟩
  · refine .inl ⟨n1, rfl, e1, h1, fun r H1 s1 ga => ?_⟩
    obtain ⟨dx1, wv1, tv1, hr1, hW1, _⟩ := ga
    exact ⟨r, _, dx1, _, _, rfl, hr1, O.o_Weights, O.n_Weights_lines, rfl, k _ _ s1 hW1⟩
  · refine .inr (.inl ⟨n1, rfl, e1, h1, fun r H1 s1 ga => ?_⟩)
    obtain ⟨dx1, wv1, tv1, hr1, hW1, _⟩ := ga
    exact ⟨r, _, dx1, _, _, rfl, hr1, O.o_Weights, O.n_Weights_lines, rfl, k _ _ s1 hW1⟩
  · refine .inr (.inr (.inl ⟨hf, fun H1 s1 => ?_⟩))
    refine ⟨true, O.e_BadSide.e, fun _ a ha => ?_, fun z => nomatch z⟩
    walk_at "r"
    exact fun r hr => k _ _ (s1.trans (Jv.same_new hr)) (.tup (Jv.sqT_at upd_same) (.cons (.str _) (.cons .non .nil)))
  · rcases h with ⟨rfl, hf⟩ | ⟨rfl, hf⟩
    · refine .inr (.inr (.inr (.inl ⟨rfl, hf, fun e H1 s1 hd => ?_⟩)))
      refine ⟨false, O.e_BadSide.no O.u_BadLot_BadSide, fun z => (nomatch z), fun _ => ?_⟩
      refine ⟨true, O.x_BadLot.e, fun _ a ha => ?_, fun z => nomatch z⟩
      walk_at "r"
      refine ⟨_, rfl, rfl, rfl, e, _, _, rfl, hd, rfl, ?_⟩
      walk_at "r"
      exact fun r hr => k _ _ (s1.trans (Jv.same_new hr)) (.tup (Jv.sqT_at upd_same) (.cons (.str _) (.cons (.int _) .nil)))
    · refine .inr (.inr (.inr (.inr ⟨rfl, hf, fun e H1 s1 hd => ?_⟩)))
      refine ⟨false, O.e_BadSide.no O.u_BadLot_BadSide, fun z => (nomatch z), fun _ => ?_⟩
      refine ⟨true, O.x_BadLot.e, fun _ a ha => ?_, fun z => nomatch z⟩
      walk_at "r"
      refine ⟨_, rfl, rfl, rfl, e, _, _, rfl, hd, rfl, ?_⟩
      walk_at "r"
      exact fun r hr => k _ _ (s1.trans (Jv.same_new hr)) (.tup (Jv.sqT_at upd_same) (.cons (.str _) (.cons (.int _) .nil)))
theorem ok_Lup_to (T : Tx) (O : Ok K mg T) : FnOk P w K mg base CX0 1 T.f_Lup_to T.d_Lup_to ["_law_entry", "_law_cost"] (sp_Lup_to K) := by
  refine O.F_Lup_to.ok sc_Lup_to (fun vs H Q E h => by obtain ⟨_, _, _, rfl, _⟩ := h; rfl) (fun cdv A outer s H vs Q E hr h => ?_)
  obtain ⟨t, c, ns, rfl, ht, hl, k⟩ := h
  refine ⟨_, (pss_one (ps_ret (pe_callTy (r := Jv.rTupOf K) call_tuple_of (by rfl) O.z_tuple (by decide +kernel) (pa_cons (pe_lc (own := [("_law_end", 2), ("_law_worth", 3)]) (by rfl) sc_Lup_to.nd (show PI _ _ _ (Jv.iEnT K _) from Jv.pi_enT (by rfl) O.z_enumerate (pa_cons (pv 0) pa_nil)) (blkOk_by (own := [("_law_end", 2), ("_law_worth", 3)]) (N := ["_law_entry", "_law_cost", "_law_end", "_law_worth"]) (sc := defScope s_Lup_to) (scope := ({ kind := .function, names := [(".0", .local), ("_law_end", .local), ("_law_worth", .local), ("_law_cost", .free)], isGenerator := false, isCoroutine := false } : Scope)) (by decide +kernel)) (fun _ _ _ _ _ => (show PG _ _ (gTup K 2 _) from pg_tup rfl (pgs_cons (pg_name (i := 2) sc_Lup_to.nd rfl (Or.inl rfl) (Or.inr rfl)) (pgs_cons (pg_name (i := 3) sc_Lup_to.nd rfl (Or.inl rfl) (Or.inr rfl)) pgs_nil)))) (fun _ _ _ _ _ => (pts_one (pt_cmpR op_le (pv 3) (pv 1) (nomark _)))) (fun _ _ _ _ _ => (pv 2))) pa_nil)))), ?_⟩
  walk_at "r"
  refine Jv.lcEnT (a := 2) (b := 3) (t := t) (fun Pq hP => ?_) ht (fun k => decide (ns.getD k 0 ≤ c)) (by rw [List.length_map]; omega) (fun _ _ => rfl) (fun _ _ => rfl) (fun i v H1 hv s1 Pq hP => ?_) (fun D H1 s1 hD eD => ?_)
  · walk_at "r"
    exact hP
  · obtain ⟨n, hn, rfl⟩ := Jv.map_at hv
    rw [show ns.getD i 0 = n by rw [List.getD_eq_getElem?_getD, hn]; rfl] at hP
    walk_at "r"
    exact hP
  · rw [List.length_map, idxV_ends] at eD
    walk_at "r"
    exact Jv.r_tupOfL (Jv.sqL_at eD) fun l2 hl2 => k l2 _ (s1.trans (Jv.same_new hl2)) (Jv.free_of s1 hl2) upd_same
theorem ok_Las_goals (T : Tx) (O : Ok K mg T) : FnOk P w K mg base CX0 6 T.f_Las_goals T.d_Las_goals ["_law_costs_here", "_law_cost"] (sp_Las_goals K T.C_Costs) := by
  refine O.F_Las_goals.ok sc_Las_goals (fun vs H Q E h => by obtain ⟨_, _, _, _, _, _, rfl, _⟩ := h; rfl) (fun cdv A outer s H vs Q E hr h => ?_)
  obtain ⟨a, c, l, C, p, q, rfl, ha, hw, k1, k2⟩ := h
  refine ⟨_, (pss_one (ps_try_as (i := 3) rfl rfl sc_Las_goals.nd rfl rfl ⟨rfl, by decide, .inl O.m_BadGoals⟩ takes0 (fun W pn xe tk _ => (pss_cons (ps_set (i := 2) sc_Las_goals.nd rfl (Or.inl rfl) (pe_callS (ok_as_goals T O) (hr.mono (by decide)) (by rfl) O.m_as_goals O.F_as_goals.kp O.b_as_goals (fun σ => passAt tk σ) (pa_cons (pv 0) (pa_cons (pv 1) pa_nil))))
  (pss_one (ps_ret (pe_tup (pa_cons (show PE _ _ (tFld K _ _) from pe_fld (pv 2) rfl) (pa_cons (show PE _ _ (tFld K _ _) from pe_fld (pv 2) rfl) (pa_cons (show PE _ _ (tFld K _ _) from pe_fld (pv 2) rfl) pa_nil)))))))) (fun a oe cls d pn hz hf => (pss_one (ps_ret (pe_xf O.x_BadGoals.f O.n_BadGoals_what hz hf (pv 3))))))), ?_⟩
  walk_at "r"
  refine ⟨a, c, l, C, p, q, rfl, ha, hw, fun h e H1 s1 hd => ?_, fun h r H1 s1 ga => ?_⟩
  · refine ⟨true, O.x_BadGoals.e, fun _ a ha => ?_, fun z => nomatch z⟩
    walk_at "r"
    refine ⟨_, rfl, rfl, rfl, e, _, _, rfl, hd, rfl, ?_⟩
    exact k1 h _ s1
  · obtain ⟨dx1, wv1, kv1, tv1, hr1, hW1, hK1, _⟩ := ga
    walk_at "r"
    refine Jv.r_fld ?_
    walk_at "r"
    refine ⟨r, _, dx1, _, _, rfl, hr1, O.o_Goals, O.n_Goals_ladder, rfl, ?_⟩
    walk_at "r"
    refine Jv.r_fld ?_
    walk_at "r"
    refine ⟨r, _, dx1, _, _, rfl, hr1, O.o_Goals, O.n_Goals_wanted, rfl, ?_⟩
    walk_at "r"
    refine Jv.r_fld ?_
    walk_at "r"
    refine ⟨r, _, dx1, _, _, rfl, hr1, O.o_Goals, O.n_Goals_knows, rfl, ?_⟩
    walk_at "r"
    intro t ht
    have n1 := Jv.same_new (u := .tup [.int l, wv1, kv1]) ht
    exact k2 h _ _ (s1.trans n1) (.tup (Jv.sqT_at upd_same) (.cons (.int _) (.cons (hW1.same n1) (.cons (hK1.same n1) .nil))))
end
end K50

namespace Jv
open PySem PySem.Spec PyProof.Rows L2
theorem new_of {H G : Hp} {p : Addr} {u : HO} (hp : H p = none) (e : L2.upd H p u = G) : Same H G ∧ G p = some u := by subst e; exact ⟨same_new hp, upd_same⟩
theorem Hand.neT {H : Hp} {p l b : Addr} {xs : List V} (h : Hand H p l) (e : H b = some (.tup xs)) : b ≠ p := by
  obtain ⟨ns, k, c, t, hA⟩ := h
  exact fun z => by rw [z, hA.hp] at e; cases e
end Jv
namespace K50
open PySem PySem.Spec PyProof.Rows L2
/-! ### what the law draws -/
def sp_Lshape : Sp := fun vs H Q _ => ∃ h hl, vs = [.ref h] ∧ Jv.Hand H h hl ∧ ∀ (t : Addr) (p q : Nat) H', (1 ≤ p ∧ p ≤ 6) → (1 ≤ q ∧ q ≤ 6) → p * q ≤ 12 → H' t = some (.tup [.int p, .int q]) → Jv.Kp h H H' → Jv.Hand H' h hl → Q (.ref t) H'
def sp_Ldrawn (K : PySem.W.Frag) : Sp := fun vs H Q _ => ∃ h hl s, ∃ p q : Nat, vs = [.ref h, .ref s] ∧ Jv.Hand H h hl ∧ H s = some (.tup [.int p, .int q]) ∧ (1 ≤ p ∧ p ≤ 6) ∧ (1 ≤ q ∧ q ≤ 6) ∧ p * q ≤ 12 ∧
  ∀ r L H', Gw L p q → Jv.Kp h H H' → Jv.Hand H' h hl → Jv.Dv K (Jv.hide [h] H') r (linLw L) → Q r H'
def sp_Lcosts (K : PySem.W.Frag) : Sp := fun vs H Q _ => ∃ h hl s l, ∃ p q : Nat, vs = [.ref h, .ref s, .int l] ∧ Jv.Hand H h hl ∧ H s = some (.tup [.int p, .int q]) ∧ (0 ≤ l ∧ l ≤ 6) ∧ (1 ≤ p ∧ p ≤ 6) ∧ (1 ≤ q ∧ q ≤ 6) ∧ p * q ≤ 12 ∧
  ∀ r L H', Gc l L p q → Jv.Kp h H H' → Jv.Hand H' h hl → Jv.Dv K (Jv.hide [h] H') r (linT L) → Q r H'
def EntOk (l : Int) (ns : List Int) : Prop := (ns.length : Int) = l + 1 ∧ ∀ n ∈ ns, 0 ≤ n ∧ n ≤ 1000000
def entT (ns : List Int) : PyData := .tuple (ns.map .int)
section
variable {P : Program} {w : World} {K : PySem.W.Frag} {mg : Str → Option Value} {base : Heap}
theorem ok_Lshape (T : Tx) (O : Ok K mg T) : FnOk P w K mg base CX0 3 T.f_Lshape T.d_Lshape ["_law_hand_here"] sp_Lshape := by
  refine O.F_Lshape.ok sc_Lshape (fun vs H Q E h => by obtain ⟨_, _, rfl, _⟩ := h; rfl) (fun cdv A outer s H vs Q E hr h => ?_)
  obtain ⟨h, hl, rfl, hh, k⟩ := h
  refine ⟨_, (pss_one (ps_ret (pe_ix (r := rIxL K) ix_list (pe_lst (pa_cons (pe_tup (pa_cons pe_int (pa_cons pe_int pa_nil))) (pa_cons (pe_tup (pa_cons pe_int (pa_cons pe_int pa_nil))) (pa_cons (pe_tup (pa_cons pe_int (pa_cons pe_int pa_nil))) (pa_cons (pe_tup (pa_cons pe_int (pa_cons pe_int pa_nil))) (pa_cons (pe_tup (pa_cons pe_int (pa_cons pe_int pa_nil))) (pa_cons (pe_tup (pa_cons pe_int (pa_cons pe_int pa_nil))) (pa_cons (pe_tup (pa_cons pe_int (pa_cons pe_int pa_nil))) (pa_cons (pe_tup (pa_cons pe_int (pa_cons pe_int pa_nil))) pa_nil))))))))) (pe_call (ok_Ldraw T O) (hr.mono (by decide)) (by rfl) O.m_Ldraw O.F_Ldraw.kp O.b_Ldraw .nil pass0 (pa_cons (pv 0) (pa_cons pe_int pa_nil))) (fun _ _ => rfl)))), ?_⟩
  walk_at "r"
  intro t1 h1
  generalize e1 : upd H t1 (.tup [.int 2, .int 2]) = G1
  obtain ⟨s1, f1⟩ := Jv.new_of h1 e1
  clear e1
  walk_at "r"
  intro t2 h2
  generalize e2 : upd G1 t2 (.tup [.int 1, .int 1]) = G2
  obtain ⟨s2, f2⟩ := Jv.new_of h2 e2
  clear e2
  walk_at "r"
  intro t3 h3
  generalize e3 : upd G2 t3 (.tup [.int 3, .int 4]) = G3
  obtain ⟨s3, f3⟩ := Jv.new_of h3 e3
  clear e3
  walk_at "r"
  intro t4 h4
  generalize e4 : upd G3 t4 (.tup [.int 6, .int 2]) = G4
  obtain ⟨s4, f4⟩ := Jv.new_of h4 e4
  clear e4
  walk_at "r"
  intro t5 h5
  generalize e5 : upd G4 t5 (.tup [.int 1, .int 6]) = G5
  obtain ⟨s5, f5⟩ := Jv.new_of h5 e5
  clear e5
  walk_at "r"
  intro t6 h6
  generalize e6 : upd G5 t6 (.tup [.int 2, .int 3]) = G6
  obtain ⟨s6, f6⟩ := Jv.new_of h6 e6
  clear e6
  walk_at "r"
  intro t7 h7
  generalize e7 : upd G6 t7 (.tup [.int 4, .int 3]) = G7
  obtain ⟨s7, f7⟩ := Jv.new_of h7 e7
  clear e7
  walk_at "r"
  intro t8 h8
  generalize e8 : upd G7 t8 (.tup [.int 3, .int 1]) = G8
  obtain ⟨s8, f8⟩ := Jv.new_of h8 e8
  clear e8
  walk_at "r"
  intro t9 h9
  generalize e9 : upd G8 t9 (.lst [.ref t1, .ref t2, .ref t3, .ref t4, .ref t5, .ref t6, .ref t7, .ref t8]) = G9
  obtain ⟨s9, f9⟩ := Jv.new_of h9 e9
  clear e9
  have s08 := s1.trans (s2.trans (s3.trans (s4.trans (s5.trans (s6.trans (s7.trans s8))))))
  have hh8 := hh.same s08
  obtain ⟨n9, _⟩ := hh8.ne2 h9
  have hh9 := hh8.same s9
  walk_at "r"
  refine ⟨h, hl, 8, rfl, hh9, ⟨by decide, Jv.log_small (by decide) (by decide)⟩, fun z H1 z0 z1 kp1 hh1 => ?_⟩
  have f9' := kp1 _ _ n9 f9
  have kp01 : Jv.Kp h H H1 := (Jv.Kp.same (s08.trans s9)).trans kp1
  walk_at "r"
  obtain ⟨n, rfl⟩ : ∃ n : Nat, z = n := ⟨z.toNat, by omega⟩
  have hn : n < 8 := by omega
  show rIxL K (.ref t9) (.int n) H1 _
  match n, hn with
  | 0, _ => exact Jv.r_ixL (Jv.sqL_at f9') (Jv.at_i (by decide) rfl) (k t1 2 2 H1 (by decide) (by decide) (by decide) (kp1 _ _ (hh9.neT (s9 _ _ (s8 _ _ (s7 _ _ (s6 _ _ (s5 _ _ (s4 _ _ (s3 _ _ (s2 _ _ f1))))))))) (s9 _ _ (s8 _ _ (s7 _ _ (s6 _ _ (s5 _ _ (s4 _ _ (s3 _ _ (s2 _ _ f1))))))))) kp01 hh1)
  | 1, _ => exact Jv.r_ixL (Jv.sqL_at f9') (Jv.at_i (by decide) rfl) (k t2 1 1 H1 (by decide) (by decide) (by decide) (kp1 _ _ (hh9.neT (s9 _ _ (s8 _ _ (s7 _ _ (s6 _ _ (s5 _ _ (s4 _ _ (s3 _ _ f2)))))))) (s9 _ _ (s8 _ _ (s7 _ _ (s6 _ _ (s5 _ _ (s4 _ _ (s3 _ _ f2)))))))) kp01 hh1)
  | 2, _ => exact Jv.r_ixL (Jv.sqL_at f9') (Jv.at_i (by decide) rfl) (k t3 3 4 H1 (by decide) (by decide) (by decide) (kp1 _ _ (hh9.neT (s9 _ _ (s8 _ _ (s7 _ _ (s6 _ _ (s5 _ _ (s4 _ _ f3))))))) (s9 _ _ (s8 _ _ (s7 _ _ (s6 _ _ (s5 _ _ (s4 _ _ f3))))))) kp01 hh1)
  | 3, _ => exact Jv.r_ixL (Jv.sqL_at f9') (Jv.at_i (by decide) rfl) (k t4 6 2 H1 (by decide) (by decide) (by decide) (kp1 _ _ (hh9.neT (s9 _ _ (s8 _ _ (s7 _ _ (s6 _ _ (s5 _ _ f4)))))) (s9 _ _ (s8 _ _ (s7 _ _ (s6 _ _ (s5 _ _ f4)))))) kp01 hh1)
  | 4, _ => exact Jv.r_ixL (Jv.sqL_at f9') (Jv.at_i (by decide) rfl) (k t5 1 6 H1 (by decide) (by decide) (by decide) (kp1 _ _ (hh9.neT (s9 _ _ (s8 _ _ (s7 _ _ (s6 _ _ f5))))) (s9 _ _ (s8 _ _ (s7 _ _ (s6 _ _ f5))))) kp01 hh1)
  | 5, _ => exact Jv.r_ixL (Jv.sqL_at f9') (Jv.at_i (by decide) rfl) (k t6 2 3 H1 (by decide) (by decide) (by decide) (kp1 _ _ (hh9.neT (s9 _ _ (s8 _ _ (s7 _ _ f6)))) (s9 _ _ (s8 _ _ (s7 _ _ f6)))) kp01 hh1)
  | 6, _ => exact Jv.r_ixL (Jv.sqL_at f9') (Jv.at_i (by decide) rfl) (k t7 4 3 H1 (by decide) (by decide) (by decide) (kp1 _ _ (hh9.neT (s9 _ _ (s8 _ _ f7))) (s9 _ _ (s8 _ _ f7))) kp01 hh1)
  | 7, _ => exact Jv.r_ixL (Jv.sqL_at f9') (Jv.at_i (by decide) rfl) (k t8 3 1 H1 (by decide) (by decide) (by decide) (kp1 _ _ (hh9.neT (s9 _ _ f8)) (s9 _ _ f8)) kp01 hh1)
  | n + 8, hn => omega
theorem ok_Ldrawn (T : Tx) (O : Ok K mg T) : FnOk P w K mg base CX0 3 T.f_Ldrawn T.d_Ldrawn ["_law_hand_here", "_law_sides"] (sp_Ldrawn K) := by
  refine O.F_Ldrawn.ok sc_Ldrawn (fun vs H Q E h => by obtain ⟨_, _, _, _, _, rfl, _⟩ := h; rfl) (fun cdv A outer s0 H vs Q E hr h => ?_)
  obtain ⟨h, hl, s, p, q, rfl, hh, es, hp, hq, hpq, k⟩ := h
  refine ⟨_, (pss_cons (ps_set (i := 2) sc_Ldrawn.nd rfl (Or.inl rfl) (pe_ix (r := rIxL K) ix_list (pe_lst (pa_cons pe_int (pa_cons pe_int (pa_cons (pe_op op_pow pe_int pe_int) (pa_cons pe_int pa_nil))))) (pe_call (ok_Ldraw T O) (hr.mono (by decide)) (by rfl) O.m_Ldraw O.F_Ldraw.kp O.b_Ldraw .nil pass0 (pa_cons (pv 0) (pa_cons pe_int pa_nil))) (fun _ _ => rfl)))
  (pss_cons (ps_set (i := 3) sc_Ldrawn.nd rfl (Or.inl rfl) (pe_lst pa_nil))
  (pss_cons (ps_for PassesOwn.never rfl (pi_range1 (by rfl) O.z_range (pa_cons (pe_ix (r := rIx K) ix_seq (pv 1) pe_int (fun _ _ => rfl)) pa_nil)) (pg_name (i := 4) sc_Ldrawn.nd rfl (Or.inl rfl)) (pss_cons (ps_set (i := 5) sc_Ldrawn.nd rfl (Or.inl rfl) (pe_lst pa_nil))
  (pss_cons (ps_for PassesOwn.never rfl (pi_range1 (by rfl) O.z_range (pa_cons (pe_ix (r := rIx K) ix_seq (pv 1) pe_int (fun _ _ => rfl)) pa_nil)) (pg_name (i := 6) sc_Ldrawn.nd rfl (Or.inl rfl)) (pss_one (ps_expr (show PE _ _ (tBM K _ _ _ _) from pe_bm PySem.F.plainAttrs_list PySem.F.slot_list_append PySem.F.type_list_append mt_append (pv 5) (pa_cons (pe_ifExp (PW.pt (pw_and (pt_cmpR op_eq (pv 2) (pe_op op_pow pe_int pe_int) (nomark _)) (pw_and1 (pt_cmpR op_eq (pe_call (ok_Ldraw T O) (hr.mono (by decide)) (by rfl) O.m_Ldraw O.F_Ldraw.kp O.b_Ldraw .nil pass0 (pa_cons (pv 0) (pa_cons pe_int pa_nil))) pe_int (nomark _))))) (pe_op op_pow pe_int pe_int) (pe_call (ok_Ldraw T O) (hr.mono (by decide)) (by rfl) O.m_Ldraw O.F_Ldraw.kp O.b_Ldraw .nil pass0 (pa_cons (pv 0) (pa_cons (pe_op op_add (pv 2) pe_int) pa_nil)))) pa_nil)))))
  (pss_one (ps_expr (show PE _ _ (tBM K _ _ _ _) from pe_bm PySem.F.plainAttrs_list PySem.F.slot_list_append PySem.F.type_list_append mt_append (pv 3) (pa_cons (pv 5) pa_nil)))))))
  (pss_one (ps_ret (pv 3)))))), ?_⟩
  walk_at "r"
  intro t ht
  obtain ⟨nt, _⟩ := hh.ne2 ht
  generalize e1 : upd H t (.lst _) = G1
  obtain ⟨s1, f1⟩ := Jv.new_of ht e1
  clear e1
  have hh1 := hh.same s1
  walk_at "r"
  refine ⟨h, hl, 4, rfl, hh1, ⟨by decide, Jv.log_small (by decide) (by decide)⟩, fun z H2 z0 z1 kp2 hh2 => ?_⟩
  have et := kp2 _ _ nt f1
  have kp02 : Jv.Kp h H H2 := (Jv.Kp.same s1).trans kp2
  walk_at "r"
  have pick : ∃ mm : Int, [V.int 1, .int 9, .int (10 ^ Int.toNat 6), .int 2][z.toNat]? = some (.int mm) ∧ 1 ≤ mm ∧ mm ≤ 1000000 := by
    obtain ⟨n, rfl⟩ : ∃ n : Nat, z = n := ⟨z.toNat, by omega⟩
    have hn : n < 4 := by omega
    match n, hn with
    | 0, _ => exact ⟨1, rfl, by decide, by decide⟩
    | 1, _ => exact ⟨9, rfl, by decide, by decide⟩
    | 2, _ => exact ⟨10 ^ Int.toNat 6, rfl, by decide, by decide⟩
    | 3, _ => exact ⟨2, rfl, by decide, by decide⟩
    | n + 4, hn => omega
  obtain ⟨mm, em, m1, m2⟩ := pick
  refine Jv.r_ixL (Jv.sqL_at et) (Jv.at_i z0 em) ?_
  have es2 := kp02 _ _ (hh.neT es) es
  clear et f1 s1 kp2 hh1 em
  walk_at "r"
  intro A hA
  obtain ⟨nAh, nAl⟩ := hh2.ne2 hA
  have nsh := hh2.neT es2
  have sk : ∀ H', Jv.Kp h H2 H' → Jv.Sk K H' (.ref s) [.int p, .int q] := fun H' k' => ⟨s, rfl, .inr (Jv.sqT_at (k' _ _ nsh es2))⟩
  walk_at "r"
  refine (sk _ (Jv.Kp.new hA)).ix (Jv.at_i (k := 0) (by decide) rfl) ?_
  walk_at "r"
  refine ⟨(p : Int), rfl, by omega, by omega, ?_⟩
  refine for_range (lo := 0) (n := (p : Int).toNat) (fun i σ H1 => ∃ (y4 y5 y6 : Option V) (xs : List V) (L' : List (List Int)), σ = [some (.ref h), some (.ref s), some (.int mm), some (.ref A), y4, y5, y6] ∧ Jv.Kp h H2 H1 ∧ Jv.Hand H1 h hl ∧ H1 A = some (.lst xs) ∧
    Jv.DvAll K (Jv.hide [A, h] H1) xs (L'.map fun line => .list (line.map .int)) ∧ L'.length = i ∧ ∀ line ∈ L', line.length = q ∧ ∀ n ∈ line, 0 ≤ n ∧ n ≤ 1000000)
    ⟨_, _, _, [], [], rfl, Jv.Kp.new hA, hh2.same (Jv.same_new hA), upd_same, .nil, rfl, fun _ hm => (nomatch hm)⟩ ?_ ?_
  · rintro i σ H4 hi ⟨y4, y5, y6, xs, L', rfl, kp4, hh4, eA, al, ln, ok⟩
    walk_at "r"
    intro C hC
    obtain ⟨nCh, nCl⟩ := hh4.ne2 hC
    have nCA : C ≠ A := fun e => by rw [e, eA] at hC; cases hC
    walk_at "r"
    refine (sk _ (kp4.trans (Jv.Kp.new hC))).ix (Jv.at_i (k := 1) (by decide) rfl) ?_
    walk_at "r"
    refine ⟨(q : Int), rfl, by omega, by omega, ?_⟩
    refine for_range (lo := 0) (n := (q : Int).toNat) (fun m σ H6 => ∃ (y6 : Option V) (ns : List Int), σ = [some (.ref h), some (.ref s), some (.int mm), some (.ref A), some (.int (0 + (i : Nat))), some (.ref C), y6] ∧ Jv.Kp h H4 H6 ∧ Jv.Hand H6 h hl ∧ H6 C = some (.lst (ns.map V.int)) ∧ ns.length = m ∧ ∀ n ∈ ns, 0 ≤ n ∧ n ≤ 1000000)
      ⟨_, [], rfl, Jv.Kp.new hC, hh4.same (Jv.same_new hC), upd_same, rfl, fun _ hm => (nomatch hm)⟩ ?_ ?_
    · rintro m σ H6 hm ⟨y6', ns, rfl, kp6, hh6, eC, lC, okC⟩
      have app : ∀ (z : Int) (H7 : Hp), 0 ≤ z → z ≤ 1000000 → Jv.Kp h H6 H7 → Jv.Hand H7 h hl → ∃ (y6 : Option V) (ns' : List Int), [some (V.ref h), some (.ref s), some (.int mm), some (.ref A), some (.int (0 + (i : Nat))), some (.ref C), some (.int (0 + (m : Nat)))] = [some (.ref h), some (.ref s), some (.int mm), some (.ref A), some (.int (0 + (i : Nat))), some (.ref C), y6] ∧
          Jv.Kp h H4 (upd H7 C (.lst (ns.map V.int ++ [.int z]))) ∧ Jv.Hand (upd H7 C (.lst (ns.map V.int ++ [.int z]))) h hl ∧ upd H7 C (.lst (ns.map V.int ++ [.int z])) C = some (.lst (ns'.map V.int)) ∧ ns'.length = m + 1 ∧ ∀ n ∈ ns', 0 ≤ n ∧ n ≤ 1000000 := fun z H7 z0 z1 kp7 hh7 =>
        ⟨_, ns ++ [z], rfl, fun c o nc hc => by rw [upd_ne (ne_of_none hc hC)]; exact kp7 c o nc (kp6 c o nc hc), hh7.upd nCh nCl, by rw [upd_same, List.map_append]; rfl, by rw [List.length_append, lC]; rfl, fun n hn => by
          rcases List.mem_append.mp hn with hn | hn
          · exact okC n hn
          · rw [List.mem_singleton.mp hn]; exact ⟨z0, z1⟩⟩
      walk_at "r"
      have e6 : (10 : Int) ^ Int.toNat 6 = 1000000 := by decide
      have less : ∀ H7, Jv.Kp h H6 H7 → Jv.Hand H7 h hl → sp_Ldraw ([V.ref h, V.int (mm + 1)] ++ []) H7 (fun x H8 => tNil
          [some (.ref h), some (.ref s), some (.int mm), some (.ref A), some (.int (0 + (i : Nat))), some (.ref C), some (.int (0 + (m : Nat)))] H8 fun xs H9 => rAppend (.ref C) (x :: xs) H9 fun _ H10 => ∃ (y6 : Option V) (ns' : List Int), [some (V.ref h), some (.ref s), some (.int mm), some (.ref A), some (.int (0 + (i : Nat))), some (.ref C), some (.int (0 + (m : Nat)))] = [some (.ref h), some (.ref s), some (.int mm), some (.ref A), some (.int (0 + (i : Nat))), some (.ref C), y6] ∧
          Jv.Kp h H4 H10 ∧ Jv.Hand H10 h hl ∧ H10 C = some (.lst (ns'.map V.int)) ∧ ns'.length = m + 1 ∧ ∀ n ∈ ns', 0 ≤ n ∧ n ≤ 1000000) (E0) := fun H7 kp7 hh7 => by
        refine ⟨h, hl, _, rfl, hh7, ⟨by omega, Jv.log_small (by omega) (by omega)⟩, fun z H8 z0 z1 kp8 hh8 => ?_⟩
        walk_at "r"
        refine Jv.r_app (kp8 C _ nCh (kp7 C _ nCh eC)) (by rw [List.length_map]; omega) ?_
        exact app z H8 z0 (by omega) (kp7.trans kp8) hh8
      refine Jv.r_decI (fun em => ?_) (fun em => ?_)
      · walk_at "r"
        refine ⟨h, hl, 3, rfl, hh6, ⟨by decide, Jv.log_small (by decide) (by decide)⟩, fun z H7 z0 z1 kp7 hh7 => ?_⟩
        walk_at "r"
        refine Jv.r_decI (fun ez => ?_) (fun ez => ?_)
        · walk_at "r"
          refine Jv.r_app (kp7 C _ nCh eC) (by rw [List.length_map]; omega) ?_
          exact app _ H7 (by rw [e6]; decide) (by rw [e6]; decide) kp7 hh7
        · walk_at "r"
          exact less _ kp7 hh7
      · walk_at "r"
        exact less _ Jv.Kp.refl hh6
    · rintro σ H6 ⟨y6', ns, rfl, kp6, hh6, eC, lC, okC⟩
      have eA6 := kp6 _ _ nAh eA
      walk_at "r"
      have lXs := al.len
      rw [List.length_map] at lXs
      refine Jv.r_app eA6 (by omega) ?_
      refine ⟨_, _, _, xs ++ [.ref C], L' ++ [ns], rfl, fun c o nc hc => by rw [upd_ne (ne_of_none hc hA)]; exact kp6 c o nc (kp4 c o nc hc), hh6.upd nAh nAl, upd_same, ?_, by rw [List.length_append, ln]; rfl, fun r hr => ?_⟩
      · rw [Jv.hide_upd, List.map_append]
        refine Jv.DvAll.snoc (.lst (Jv.hide_at ?_ eC) (Jv.dv_ints ns)) (al.same (kp6.hideM (by simp)))
        intro m
        rcases List.mem_cons.mp m with e | m
        · exact nCA e
        · exact nCh (List.mem_singleton.mp m)
      · rcases List.mem_append.mp hr with hr | hr
        · exact ok r hr
        · rw [List.mem_singleton.mp hr]; exact ⟨by omega, okC⟩
  · rintro σ H4 ⟨y4, y5, y6, xs, L', rfl, kp4, hh4, eA, al, ln, ok⟩
    walk_at "r"
    exact k (.ref A) L' H4 ⟨by omega, fun line hm => (ok line hm).1, hp.1, hp.2, hq.1, hq.2, hpq, fun line hm => (ok line hm).2⟩ (kp02.trans kp4) hh4 (.lst (Jv.hide_at (fun m => nAh (List.mem_singleton.mp m)) eA) (al.same Jv.hide_less))
theorem ok_Lcosts (T : Tx) (O : Ok K mg T) : FnOk P w K mg base CX0 3 T.f_Lcosts T.d_Lcosts ["_law_hand_here", "_law_sides", "_law_ladder"] (sp_Lcosts K) := by
  refine O.F_Lcosts.ok sc_Lcosts (fun vs H Q E h => by obtain ⟨_, _, _, _, _, _, rfl, _⟩ := h; rfl) (fun cdv A outer s0 H vs Q E hr h => ?_)
  obtain ⟨h, hl, s, l, p, q, rfl, hh, es, ⟨l0, l6⟩, hp, hq, hpq, k⟩ := h
  refine ⟨_, (pss_cons (ps_set (i := 3) sc_Lcosts.nd rfl (Or.inl rfl) (pe_ix (r := rIxL K) ix_list (pe_lst (pa_cons pe_int (pa_cons pe_int (pa_cons pe_int (pa_cons (pe_op op_pow pe_int pe_int) pa_nil))))) (pe_call (ok_Ldraw T O) (hr.mono (by decide)) (by rfl) O.m_Ldraw O.F_Ldraw.kp O.b_Ldraw .nil pass0 (pa_cons (pv 0) (pa_cons pe_int pa_nil))) (fun _ _ => rfl)))
  (pss_cons (ps_set (i := 4) sc_Lcosts.nd rfl (Or.inl rfl) (pe_lst pa_nil))
  (pss_cons (ps_for PassesOwn.never rfl (pi_range1 (by rfl) O.z_range (pa_cons (pe_ix (r := rIx K) ix_seq (pv 1) pe_int (fun _ _ => rfl)) pa_nil)) (pg_name (i := 5) sc_Lcosts.nd rfl (Or.inl rfl)) (pss_cons (ps_set (i := 6) sc_Lcosts.nd rfl (Or.inl rfl) (pe_lst pa_nil))
  (pss_cons (ps_for PassesOwn.never rfl (pi_range1 (by rfl) O.z_range (pa_cons (pe_ix (r := rIx K) ix_seq (pv 1) pe_int (fun _ _ => rfl)) pa_nil)) (pg_name (i := 7) sc_Lcosts.nd rfl (Or.inl rfl)) (pss_cons (ps_set (i := 8) sc_Lcosts.nd rfl (Or.inl rfl) (pe_lst pa_nil))
  (pss_cons (ps_for PassesOwn.never rfl (pi_range1 (by rfl) O.z_range (pa_cons (pe_op op_add (pv 2) pe_int) pa_nil)) (pg_name (i := 9) sc_Lcosts.nd rfl (Or.inl rfl)) (pss_one (ps_expr (show PE _ _ (tBM K _ _ _ _) from pe_bm PySem.F.plainAttrs_list PySem.F.slot_list_append PySem.F.type_list_append mt_append (pv 8) (pa_cons (pe_call (ok_Ldraw T O) (hr.mono (by decide)) (by rfl) O.m_Ldraw O.F_Ldraw.kp O.b_Ldraw .nil pass0 (pa_cons (pv 0) (pa_cons (pe_op op_add (pv 3) pe_int) pa_nil))) pa_nil)))))
  (pss_one (ps_expr (show PE _ _ (tBM K _ _ _ _) from pe_bm PySem.F.plainAttrs_list PySem.F.slot_list_append PySem.F.type_list_append mt_append (pv 6) (pa_cons (pe_callTy (r := Jv.rTupOf K) call_tuple_of (by rfl) O.z_tuple (by decide +kernel) (pa_cons (pv 8) pa_nil)) pa_nil)))))))
  (pss_one (ps_expr (show PE _ _ (tBM K _ _ _ _) from pe_bm PySem.F.plainAttrs_list PySem.F.slot_list_append PySem.F.type_list_append mt_append (pv 4) (pa_cons (pe_callTy (r := Jv.rTupOf K) call_tuple_of (by rfl) O.z_tuple (by decide +kernel) (pa_cons (pv 6) pa_nil)) pa_nil)))))))
  (pss_one (ps_ret (pe_callTy (r := Jv.rTupOf K) call_tuple_of (by rfl) O.z_tuple (by decide +kernel) (pa_cons (pv 4) pa_nil))))))), ?_⟩
  walk_at "r"
  intro t ht
  obtain ⟨nt, _⟩ := hh.ne2 ht
  generalize e1 : upd H t (.lst _) = G1
  obtain ⟨s1, f1⟩ := Jv.new_of ht e1
  clear e1
  have hh1 := hh.same s1
  walk_at "r"
  refine ⟨h, hl, 4, rfl, hh1, ⟨by decide, Jv.log_small (by decide) (by decide)⟩, fun z H2 z0 z1 kp2 hh2 => ?_⟩
  have et := kp2 _ _ nt f1
  have kp02 : Jv.Kp h H H2 := (Jv.Kp.same s1).trans kp2
  walk_at "r"
  have pick : ∃ mm : Int, [V.int 1, .int 3, .int 9, .int (10 ^ Int.toNat 6)][z.toNat]? = some (.int mm) ∧ 1 ≤ mm ∧ mm ≤ 1000000 := by
    obtain ⟨n, rfl⟩ : ∃ n : Nat, z = n := ⟨z.toNat, by omega⟩
    have hn : n < 4 := by omega
    match n, hn with
    | 0, _ => exact ⟨1, rfl, by decide, by decide⟩
    | 1, _ => exact ⟨3, rfl, by decide, by decide⟩
    | 2, _ => exact ⟨9, rfl, by decide, by decide⟩
    | 3, _ => exact ⟨10 ^ Int.toNat 6, rfl, by decide, by decide⟩
    | n + 4, hn => omega
  obtain ⟨mm, em, m1, m2⟩ := pick
  refine Jv.r_ixL (Jv.sqL_at et) (Jv.at_i z0 em) ?_
  have es2 := kp02 _ _ (hh.neT es) es
  clear et f1 s1 kp2 hh1 em
  walk_at "r"
  intro A hA
  obtain ⟨nAh, nAl⟩ := hh2.ne2 hA
  have nsh := hh2.neT es2
  have sk : ∀ H', Jv.Kp h H2 H' → Jv.Sk K H' (.ref s) [.int p, .int q] := fun H' k' => ⟨s, rfl, .inr (Jv.sqT_at (k' _ _ nsh es2))⟩
  walk_at "r"
  refine (sk _ (Jv.Kp.new hA)).ix (Jv.at_i (k := 0) (by decide) rfl) ?_
  walk_at "r"
  refine ⟨(p : Int), rfl, by omega, by omega, ?_⟩
  refine for_range (lo := 0) (n := (p : Int).toNat) (fun i σ H1 => ∃ y5 y6 y7 y8 y9 xs L', σ = [some (.ref h), some (.ref s), some (.int l), some (.int mm), some (.ref A), y5, y6, y7, y8, y9] ∧ Jv.Kp h H2 H1 ∧ Jv.Hand H1 h hl ∧ H1 A = some (.lst xs) ∧
    Jv.DvAll K (Jv.hide [A, h] H1) xs (L'.map rowT) ∧ L'.length = i ∧ ∀ line ∈ L', line.length = q ∧ ∀ ns ∈ line, EntOk l ns)
    ⟨_, _, _, _, _, [], [], rfl, Jv.Kp.new hA, hh2.same (Jv.same_new hA), upd_same, .nil, rfl, fun _ hm => (nomatch hm)⟩ ?_ ?_
  · rintro i σ H4 hi ⟨y5, y6, y7, y8, y9, xs, L', rfl, kp4, hh4, eA, al, ln, ok⟩
    walk_at "r"
    intro B hB
    obtain ⟨nBh, nBl⟩ := hh4.ne2 hB
    have nBA : B ≠ A := fun e => by rw [e, eA] at hB; cases hB
    walk_at "r"
    refine (sk _ (kp4.trans (Jv.Kp.new hB))).ix (Jv.at_i (k := 1) (by decide) rfl) ?_
    walk_at "r"
    refine ⟨(q : Int), rfl, by omega, by omega, ?_⟩
    refine for_range (lo := 0) (n := (q : Int).toNat) (fun j σ H5 => ∃ y7 y8 y9 us line, σ = [some (.ref h), some (.ref s), some (.int l), some (.int mm), some (.ref A), some (.int (0 + (i : Nat))), some (.ref B), y7, y8, y9] ∧ Jv.Kp h H4 H5 ∧ Jv.Hand H5 h hl ∧ H5 B = some (.lst us) ∧
      Jv.DvAll K (Jv.hide [B, A, h] H5) us (line.map entT) ∧ line.length = j ∧ ∀ ns ∈ line, EntOk l ns)
      ⟨_, _, _, [], [], rfl, Jv.Kp.new hB, hh4.same (Jv.same_new hB), upd_same, .nil, rfl, fun _ hm => (nomatch hm)⟩ ?_ ?_
    · rintro j σ H5 hj ⟨y7, y8, y9, us, line, rfl, kp5, hh5, eB, alU, lU, okU⟩
      have eA5 := kp5 _ _ nAh eA
      walk_at "r"
      intro C hC
      obtain ⟨nCh, nCl⟩ := hh5.ne2 hC
      walk_at "r"
      refine ⟨l + 1, rfl, by omega, by omega, ?_⟩
      refine for_range (lo := 0) (n := (l + 1).toNat) (fun m σ H6 => ∃ (y9 : Option V) (ns : List Int), σ = [some (.ref h), some (.ref s), some (.int l), some (.int mm), some (.ref A), some (.int (0 + (i : Nat))), some (.ref B), some (.int (0 + (j : Nat))), some (.ref C), y9] ∧ Jv.Kp h H5 H6 ∧ Jv.Hand H6 h hl ∧ H6 C = some (.lst (ns.map V.int)) ∧ ns.length = m ∧ ∀ n ∈ ns, 0 ≤ n ∧ n ≤ 1000000)
        ⟨_, [], rfl, Jv.Kp.new hC, hh5.same (Jv.same_new hC), upd_same, rfl, fun _ hm => (nomatch hm)⟩ ?_ ?_
      · rintro m σ H6 hm ⟨y9', ns, rfl, kp6, hh6, eC, lC, okC⟩
        walk_at "r"
        refine ⟨h, hl, _, rfl, hh6, ⟨by omega, Jv.log_small (by omega) (by omega)⟩, fun z H8 z0 z1 kp8 hh8 => ?_⟩
        walk_at "r"
        refine Jv.r_app (kp8 C _ nCh eC) (by rw [List.length_map]; omega) ?_
        exact ⟨_, ns ++ [z], rfl, fun c o nc hc => by rw [upd_ne (ne_of_none hc hC)]; exact kp8 c o nc (kp6 c o nc hc), hh8.upd nCh nCl, by rw [upd_same, List.map_append]; rfl, by rw [List.length_append, lC]; rfl, fun n hn => by
          rcases List.mem_append.mp hn with hn | hn
          · exact okC n hn
          · rw [List.mem_singleton.mp hn]; exact ⟨z0, by omega⟩⟩
      · rintro σ H6 ⟨y9', ns, rfl, kp6, hh6, eC, lC, okC⟩
        have eB6 := kp6 _ _ nBh eB
        have eA6 := kp6 _ _ nAh eA5
        walk_at "r"
        refine Jv.r_tupOfL (Jv.sqL_at eC) fun t2 ht2 => ?_
        obtain ⟨nth, ntl⟩ := hh6.ne2 ht2
        have hN : Jv.Held [B, A, h] H6 := fun b m => by
          rcases List.mem_cons.mp m with e | m
          · rw [e]; exact ⟨_, eB6⟩
          · rcases List.mem_cons.mp m with e | m
            · rw [e]; exact ⟨_, eA6⟩
            · rw [List.mem_singleton.mp m]; exact hh6.at
        have dT : Jv.Dv K (Jv.hide [B, A, h] (upd H6 t2 (.tup (ns.map V.int)))) (.ref t2) (entT ns) := Jv.dv_new ht2 hN (Jv.dv_ints ns)
        generalize e7 : upd H6 t2 (.tup (ns.map V.int)) = H7 at dT
        obtain ⟨s7, f7⟩ := Jv.new_of ht2 e7
        clear e7
        have eB7 := s7 _ _ eB6
        walk_at "r"
        have lUs := alU.len
        rw [List.length_map] at lUs
        refine Jv.r_app eB7 (by omega) ?_
        have kp57 : Jv.Kp h H5 H7 := kp6.trans (Jv.Kp.same s7)
        refine ⟨_, _, _, us ++ [.ref t2], line ++ [ns], rfl, fun c o nc hc => by rw [upd_ne (ne_of_none hc hB)]; exact kp57 c o nc (kp5 c o nc hc), (hh6.same s7).upd nBh nBl, upd_same, ?_, by rw [List.length_append, lU]; rfl, fun n hn => ?_⟩
        · rw [Jv.hide_upd, List.map_append]
          exact Jv.DvAll.snoc dT (alU.same (kp57.hideM (by simp)))
        · rcases List.mem_append.mp hn with hn | hn
          · exact okU n hn
          · rw [List.mem_singleton.mp hn]; exact ⟨by omega, okC⟩
    · rintro σ H5 ⟨y7, y8, y9, us, line, rfl, kp5, hh5, eB, alU, lU, okU⟩
      have eA5 := kp5 _ _ nAh eA
      walk_at "r"
      refine Jv.r_tupOfL (Jv.sqL_at eB) fun t2 ht2 => ?_
      have hN : Jv.Held [A, h] H5 := fun b m => by
        rcases List.mem_cons.mp m with e | m
        · rw [e]; exact ⟨_, eA5⟩
        · rw [List.mem_singleton.mp m]; exact hh5.at
      have dT : Jv.Dv K (Jv.hide [A, h] (upd H5 t2 (.tup us))) (.ref t2) (rowT line) := Jv.dv_new ht2 hN (alU.same Jv.hide_less)
      generalize e7 : upd H5 t2 (.tup us) = H7 at dT
      obtain ⟨s7, f7⟩ := Jv.new_of ht2 e7
      clear e7
      have eA7 := s7 _ _ eA5
      walk_at "r"
      have lXs := al.len
      rw [List.length_map] at lXs
      refine Jv.r_app eA7 (by omega) ?_
      have kp47 : Jv.Kp h H4 H7 := kp5.trans (Jv.Kp.same s7)
      refine ⟨_, _, _, _, _, xs ++ [.ref t2], L' ++ [line], rfl, fun c o nc hc => by rw [upd_ne (ne_of_none hc hA)]; exact kp47 c o nc (kp4 c o nc hc), (hh5.same s7).upd nAh nAl, upd_same, ?_, by rw [List.length_append, ln]; rfl, fun r hr => ?_⟩
      · rw [Jv.hide_upd, List.map_append]
        exact Jv.DvAll.snoc dT (al.same (kp47.hideM (by simp)))
      · rcases List.mem_append.mp hr with hr | hr
        · exact ok r hr
        · rw [List.mem_singleton.mp hr]; exact ⟨by omega, okU⟩
  · rintro σ H4 ⟨y5, y6, y7, y8, y9, xs, L', rfl, kp4, hh4, eA, al, ln, ok⟩
    walk_at "r"
    refine Jv.r_tupOfL (Jv.sqL_at eA) fun t2 ht2 => ?_
    have hN : Jv.Held [h] H4 := fun b m => by rw [List.mem_singleton.mp m]; exact hh4.at
    have dT : Jv.Dv K (Jv.hide [h] (upd H4 t2 (.tup xs))) (.ref t2) (linT L') := Jv.dv_new ht2 hN (al.same Jv.hide_less)
    have s7 := Jv.same_new (u := .tup xs) ht2
    exact k _ L' _ ⟨l0, l6, by omega, fun line hm => (ok line hm).1, hp.1, hp.2, hq.1, hq.2, hpq, fun line hm ns hn => ((ok line hm).2 ns hn).1, fun line hm ns hn => ((ok line hm).2 ns hn).2⟩ (kp02.trans (kp4.trans (Jv.Kp.same s7))) (hh4.same s7) dT
end
end K50

namespace K50
open PySem PySem.Spec PyProof.Rows L2
/-! ### lines spoilt -/
def sp_Lspoil (K : PySem.W.Frag) : Sp := fun vs H Q _ => ∃ h hl x L, ∃ p q : Nat, vs = [.ref h, x] ∧ Jv.Hand H h hl ∧ Jv.Dv K (Jv.hide [h] H) x (linLw L) ∧ Gw L p q ∧
  ∀ r d H', Jv.Dv K (Jv.hide [h] H') r d → Jv.few2 d → Jv.Kp h H H' → Jv.Hand H' h hl → Q r H'
def rowL (ns : List Int) : PyData := .list (ns.map .int)
theorem _root_.Jv.DvAll.set {K : PySem.W.Frag} {H : Hp} {v : V} {d : PyData} (h : Jv.Dv K H v d) : ∀ {vs : List V} {ds : List PyData} (j : Nat), Jv.DvAll K H vs ds → Jv.DvAll K H (vs.set j v) (ds.set j d)
  | _, _, _, .nil => .nil
  | _, _, 0, .cons _ b => .cons h b
  | _, _, j + 1, .cons a b => .cons a (Jv.DvAll.set h j b)
theorem mapAt {α β : Type} {f : α → β} {xs : List α} {i : Nat} {y : β} (h : (xs.map f)[i]? = some y) : ∃ x, xs[i]? = some x ∧ f x = y := by
  rw [List.getElem?_map] at h
  exact Option.map_eq_some_iff.mp h
theorem set_same {xs : List V} {j : Nat} {v : V} (h : xs[j]? = some v) : xs.set j v = xs := by
  obtain ⟨h1, h2⟩ := List.getElem?_eq_some_iff.mp h
  rw [← h2]; simp
theorem setD {K : PySem.W.Frag} {H : Hp} {D h : Addr} {vs : List V} {ds : List PyData} (n : D ≠ h) (al : Jv.DvAll K (Jv.hide [D, h] H) vs ds) : Jv.Dv K (Jv.hide [h] (upd H D (.lst vs))) (.ref D) (.list ds) := by
  rw [← Jv.hide_upd (o := .lst vs)] at al
  exact .lst (Jv.hide_at (fun m => n (List.mem_singleton.mp m)) upd_same) (al.same Jv.hide_less)
theorem few1_ints (ns : List Int) (h : ns.length ≤ 100) : Jv.few1 (rowL ns) := fun ds e => by cases e; rw [List.length_map]; exact h
theorem few2_of {ds : List PyData} (h : ds.length ≤ 100) (h2 : ∀ e ∈ ds, Jv.few1 e) : Jv.few2 (.list ds) := fun es e => by cases e; exact ⟨h, h2⟩
theorem few1_flat {d : PyData} (h : Jv.seqD d = none) : Jv.few1 d := fun ds e => by rw [h] at e; cases e
theorem few2_flat {d : PyData} (h : Jv.seqD d = none) : Jv.few2 d := fun ds e => by rw [h] at e; cases e
theorem few1_of {d : PyData} {es : List PyData} (h : Jv.seqD d = some es) (l : es.length ≤ 100) : Jv.few1 d := fun ds e => by rw [h] at e; cases e; exact l
theorem mem_set {ds : List PyData} {j : Nat} {d e : PyData} (h : e ∈ ds.set j d) : e ∈ ds ∨ e = d := List.mem_or_eq_of_mem_set h
section
variable {P : Program} {w : World} {K : PySem.W.Frag} {mg : Str → Option Value} {base : Heap}
theorem ok_Lspoil (T : Tx) (O : Ok K mg T) : FnOk P w K mg base CX0 4 T.f_Lspoil T.d_Lspoil ["_law_hand_here", "_law_lines"] (sp_Lspoil K) := by
  refine O.F_Lspoil.ok sc_Lspoil (fun vs H Q E h => by obtain ⟨_, _, _, _, _, _, rfl, _⟩ := h; rfl) (fun cdv A outer s H vs Q E hr h => ?_)
  obtain ⟨h, hl, x, L, p, q, rfl, hh, hx, hw, k⟩ := h
  refine ⟨_, (pss_cons (ps_setLc (i := 2) (own := [("_law_line", 6)]) (by rfl) sc_Lspoil.nd rfl rfl (sw_true rfl rfl rfl (by decide +kernel)) (Jv.piOr (show PI _ _ _ (iList K _) from pi_list (pv 1)) (show PI _ _ _ (iTup K _) from pi_tup (pv 1))) (blkOk_by (own := [("_law_line", 6)]) (N := ["_law_hand_here", "_law_lines", "_law_kept", "_law_way", "_law_east", "_law_odd", "_law_line"]) (sc := defScope s_Lspoil) (scope := ({ kind := .function, names := [(".0", .local), ("_law_line", .local), ("list", .globalImplicit)], isGenerator := false, isCoroutine := false } : Scope)) (by decide +kernel)) (fun _ _ _ _ _ => (pg_name (i := 6) sc_Lspoil.nd rfl (Or.inl rfl))) (fun _ _ _ _ _ => pts_nil) (fun _ _ _ _ _ => (pe_callTy (r := Jv.rListOf K) call_list_of (by rfl) O.z_list (by decide +kernel) (pa_cons (pv 6) pa_nil))))
  (pss_cons (ps_set (i := 3) sc_Lspoil.nd rfl (Or.inl rfl) (pe_call (ok_Ldraw T O) (hr.mono (by decide)) (by rfl) O.m_Ldraw O.F_Ldraw.kp O.b_Ldraw .nil pass0 (pa_cons (pv 0) (pa_cons pe_int pa_nil))))
  (C8.pss_cut (ps_set (i := 4) sc_Lspoil.nd rfl (Or.inl rfl) (pe_call (ok_Ldraw T O) (hr.mono (by decide)) (by rfl) O.m_Ldraw O.F_Ldraw.kp O.b_Ldraw .nil pass0 (pa_cons (pv 0) (pa_cons (pe_callB (r := Jv.rLenK K) Jv.cr_len (by rfl) O.z_len (by decide +kernel) (pa_cons (pv 2) pa_nil)) pa_nil))))
  (pss_cons (ps_if (pt_cmpR op_eq (pv 3) pe_int (nomark _)) (pss_one (ps_ret (pe_ix (r := rIxL K) ix_list (pe_lst (pa_cons pe_non (pa_cons pe_int (pa_cons pe_str (pa_cons (pe_lst pa_nil) (pa_cons (pe_tup pa_nil) (pa_cons (pe_lst (pa_cons (pe_lst pa_nil) pa_nil)) (pa_cons (pe_lst (pa_cons (pe_lst pa_nil) (pa_cons (pe_lst pa_nil) pa_nil))) pa_nil)))))))) (pe_call (ok_Ldraw T O) (hr.mono (by decide)) (by rfl) O.m_Ldraw O.F_Ldraw.kp O.b_Ldraw .nil pass0 (pa_cons (pv 0) (pa_cons pe_int pa_nil))) (fun _ _ => rfl)))) pss_nil)
  (C8.pss_cut (ps_if (pt_cmpR op_eq (pv 3) pe_int (nomark _)) (pss_one (ps_asg (pe_op op_cat (pe_ix (r := rIxL K) ix_list (pv 2) (pv 4) (fun _ _ => rfl)) (pe_lst (pa_cons pe_int pa_nil))) (pg_sub (pv 2) (pv 4) set_list))) (pss_one (ps_if (pt_cmpR op_eq (pv 3) pe_int (nomark _)) (pss_one (ps_asg (pe_ix (r := rIxL K) ix_list (pe_lst (pa_cons pe_non (pa_cons pe_int (pa_cons (pe_tup pa_nil) (pa_cons pe_str pa_nil))))) (pe_call (ok_Ldraw T O) (hr.mono (by decide)) (by rfl) O.m_Ldraw O.F_Ldraw.kp O.b_Ldraw .nil pass0 (pa_cons (pv 0) (pa_cons pe_int pa_nil))) (fun _ _ => rfl)) (pg_sub (pv 2) (pv 4) set_list))) (pss_one (ps_if (pt_cmpR op_eq (pv 3) pe_int (nomark _)) (pss_one (ps_set (i := 2) sc_Lspoil.nd rfl (Or.inl rfl) (pe_op op_cat (pe_op op_cat (pe_op op_cat (pe_op op_cat (pe_op op_cat (pe_op op_cat (pv 2) (pv 2)) (pv 2)) (pv 2)) (pv 2)) (pv 2)) (pv 2)))) (pss_cons (ps_set (i := 5) sc_Lspoil.nd rfl (Or.inl rfl) (pe_ix (r := rIxL K) ix_list (pe_lst (pa_cons (pe_un un_neg pe_int) (pa_cons (pe_op op_add (pe_op op_pow pe_int pe_int) pe_int) (pa_cons pe_bl (pa_cons pe_non (pa_cons pe_str (pa_cons (pe_tup (pa_cons pe_int pa_nil)) (pa_cons (pe_op op_pow pe_int pe_int) (pa_cons pe_bl pa_nil))))))))) (pe_call (ok_Ldraw T O) (hr.mono (by decide)) (by rfl) O.m_Ldraw O.F_Ldraw.kp O.b_Ldraw .nil pass0 (pa_cons (pv 0) (pa_cons pe_int pa_nil))) (fun _ _ => rfl)))
  (pss_one (ps_asg (pv 5) (pg_sub (pe_ix (r := rIxL K) ix_list (pv 2) (pv 4) (fun _ _ => rfl)) (pe_call (ok_Ldraw T O) (hr.mono (by decide)) (by rfl) O.m_Ldraw O.F_Ldraw.kp O.b_Ldraw .nil pass0 (pa_cons (pv 0) (pa_cons (pe_callB (r := Jv.rLenK K) Jv.cr_len (by rfl) O.z_len (by decide +kernel) (pa_cons (pe_ix (r := rIxL K) ix_list (pv 2) (pv 4) (fun _ _ => rfl)) pa_nil)) pa_nil))) set_list)))))))))
  (pss_one (ps_ret (pv 2)))))))), ?_⟩
  walk_at "r"
  have p0 := hw.p0
  have p6 := hw.p6
  have q0 := hw.q0
  have q6 := hw.q6
  have lL := hw.hp
  obtain ⟨ws, skW, alW⟩ := (hx.same Jv.hide_le).sk rfl
  have lws := alW.len
  rw [List.length_map] at lws
  refine Jv.lcNew2 (K := K) (j := 6) (i := 1) rfl skW (L.map rowL) (by rw [List.length_map]; omega) (by omega) (fun i v e D1 H6 hi hv he s6 hD1 ⟨_, hD6⟩ PP hP => ?_) (fun D AA H1 s1 ft fr => ?_)
  · obtain ⟨dl, c1, c2⟩ := alW.at hv
    obtain ⟨line, c3, rfl⟩ := mapAt c1
    rw [List.getElem?_map, c3] at he
    obtain rfl := Option.some.inj he
    obtain ⟨us, skU, alU⟩ := (c2.same s6).sk rfl
    obtain rfl := Jv.dv_intsV alU
    obtain ⟨A0, rfl, hA0⟩ := skU
    walk_at "r"
    exact Jv.r_listOf hA0 fun M hM => hP _ [M] _ (Jv.same_new hM) (.lst upd_same (Jv.FtAll.ints line) (fun m => nomatch m)) fun a m => by rw [List.mem_singleton.mp m]; exact hM
  have hh1 := hh.same s1
  walk_at "r"
  refine ⟨h, hl, 8, rfl, hh1, ⟨by decide, Jv.log_small (by decide) (by decide)⟩, fun way H2 w0 w1 kp2 hh2 => ?_⟩
  have nAA : ∀ a ∈ AA, a ≠ h := fun a m => (hh.ne2 (fr a m)).1
  have ft2 : Jv.Ft K H2 (.ref D) (.list (L.map rowL)) AA := ft.keep fun a m o e => kp2 a o (nAA a m) e
  walk_at "r"
  refine ⟨fun σ H' => ∃ e : Nat, e < p ∧ σ = [some (.ref h), some x, some (.ref D), some (.int way), some (.int e), none, none] ∧ Jv.Ft K H' (.ref D) (.list (L.map rowL)) AA ∧ Jv.Kp h H2 H' ∧ Jv.Hand H' h hl, ?_, ?_⟩
  · have ft2' := ft2
    cases ft2' with
    | lst eD fa nD =>
    have lx := fa.len
    rw [List.length_map, hw.hp] at lx
    walk_at "r"
    refine ⟨h, hl, _, rfl, hh2, ⟨by omega, Jv.log_small (by omega) (by omega)⟩, fun z H3 z0 z1 kp3 hh3 => ?_⟩
    obtain ⟨e, rfl⟩ : ∃ e : Nat, z = e := ⟨z.toNat, by omega⟩
    walk_at "r"
    exact ⟨e, by omega, rfl, ft2.keep fun a m o e => kp3 a o (nAA a m) e, kp3, hh3⟩
  rintro σ H4 ⟨e, he, rfl, ft4, kp4, hh4⟩
  have kp04 : Jv.Kp h H H4 := (Jv.Kp.same s1).trans (kp2.trans kp4)
  cases ft4 with
  | lst eD fa nD =>
  rename_i xs A'
  have lx := fa.len
  rw [List.length_map, hw.hp] at lx
  have nDh := nAA D List.mem_cons_self
  have nAl : ∀ a ∈ D :: A', a ≠ hl := fun a m => (hh.ne2 (fr a m)).2
  have kpA : ∀ (a : Addr) (H' : Hp) (o : HO), a ∈ D :: A' → Jv.Kp h H4 H' → Jv.Kp h H (upd H' a o) := fun a H' o m k' c u nc hc => by
    rw [upd_ne (ne_of_none hc (fr a m))]
    exact (kp04.trans k') c u nc hc
  have al4 : Jv.DvAll K (Jv.hide [D, h] H4) xs (L.map rowL) := (fa.keep fun a m o e => Jv.hide_at (fun m2 => by
    rcases List.mem_cons.mp m2 with z | m2
    · exact nD (z ▸ m)
    · exact nAA a (List.mem_cons_of_mem _ m) (List.mem_singleton.mp m2)) e).dv
  have fR : ∀ r ∈ L.map rowL, Jv.few1 r := fun r hr => by
    obtain ⟨line, hl, rfl⟩ := List.mem_map.mp hr
    exact few1_ints line (by rw [hw.hq line hl]; omega)
  obtain ⟨R, line, r1, r2, r3, r4, r6, r7, r8, chgR⟩ : ∃ R line, xs[e]? = some (.ref R) ∧ L[e]? = some line ∧ line.length = q ∧ H4 R = some (.lst (line.map V.int)) ∧ R ≠ h ∧ R ≠ D ∧ R ∈ A' ∧
      ∀ w e' H', (∀ a ∈ A', a ≠ R → ∀ o, H4 a = some o → H' a = some o) → Jv.Dv K H' w e' → Jv.DvAll K H' (xs.set e w) ((L.map rowL).set e e') := by
    have hx1 : xs[e]? = some xs[e] := List.getElem?_eq_getElem (by omega)
    obtain ⟨d, B, hd, ftv, sub, chg⟩ := fa.chg hx1
    obtain ⟨line, hl, rfl⟩ := mapAt hd
    generalize xs[e] = v at hx1 ftv
    have ftv' : Jv.Ft K H4 v (.list (line.map .int)) B := ftv
    cases ftv' with
    | lst a b c =>
      rw [Jv.dv_intsV b.dv] at a
      have mR := sub _ List.mem_cons_self
      exact ⟨_, line, hx1, hl, hw.hq line (List.mem_of_getElem? hl), a, nAA _ (List.mem_cons_of_mem _ mR), fun z => nD (z ▸ mR), mR, fun w e' H' s dv => chg w e' H' (fun a m nb o e => s a m (fun z => nb (by rw [z]; exact List.mem_cons_self)) o e) dv⟩
  have fin : ∀ r d H', Jv.Dv K (Jv.hide [h] H') r d → Jv.few2 d → Jv.Kp h H4 H' → Jv.Hand H' h hl → Q r H' := fun r d H' a b c e => k r d H' a b (kp04.trans c) e
  walk_at "r"
  refine Jv.r_decI (fun _ => ?_) (fun _ => ?_)
  · walk_at "r"
    intro t1 h1
    obtain ⟨nh1, _⟩ := hh4.ne2 h1
    generalize e1 : upd H4 t1 (.lst []) = G1
    obtain ⟨s1, f1⟩ := Jv.new_of h1 e1
    have hg1 := hh4.same s1
    clear e1 h1
    walk_at "r"
    intro t2 h2
    obtain ⟨nh2, _⟩ := hg1.ne2 h2
    generalize e2 : upd G1 t2 (.tup []) = G2
    obtain ⟨s2, f2⟩ := Jv.new_of h2 e2
    have hg2 := hg1.same s2
    clear e2 h2
    walk_at "r"
    intro t3 h3
    obtain ⟨nh3, _⟩ := hg2.ne2 h3
    generalize e3 : upd G2 t3 (.lst []) = G3
    obtain ⟨s3, f3⟩ := Jv.new_of h3 e3
    have hg3 := hg2.same s3
    clear e3 h3
    walk_at "r"
    intro t4 h4
    obtain ⟨nh4, _⟩ := hg3.ne2 h4
    generalize e4 : upd G3 t4 (.lst [.ref t3]) = G4
    obtain ⟨s4, f4⟩ := Jv.new_of h4 e4
    have hg4 := hg3.same s4
    clear e4 h4
    walk_at "r"
    intro t5 h5
    obtain ⟨nh5, _⟩ := hg4.ne2 h5
    generalize e5 : upd G4 t5 (.lst []) = G5
    obtain ⟨s5, f5⟩ := Jv.new_of h5 e5
    have hg5 := hg4.same s5
    clear e5 h5
    walk_at "r"
    intro t6 h6
    obtain ⟨nh6, _⟩ := hg5.ne2 h6
    generalize e6 : upd G5 t6 (.lst []) = G6
    obtain ⟨s6, f6⟩ := Jv.new_of h6 e6
    have hg6 := hg5.same s6
    clear e6 h6
    walk_at "r"
    intro t7 h7
    obtain ⟨nh7, _⟩ := hg6.ne2 h7
    generalize e7 : upd G6 t7 (.lst [.ref t5, .ref t6]) = G7
    obtain ⟨s7, f7⟩ := Jv.new_of h7 e7
    have hg7 := hg6.same s7
    clear e7 h7
    walk_at "r"
    intro t8 h8
    obtain ⟨nh8, _⟩ := hg7.ne2 h8
    generalize e8 : upd G7 t8 (.lst [.non, .int 7, .str "ab", .ref t1, .ref t2, .ref t4, .ref t7]) = G8
    obtain ⟨s8, f8⟩ := Jv.new_of h8 e8
    have hg8 := hg7.same s8
    clear e8 h8
    walk_at "r"
    refine ⟨h, hl, 7, rfl, hg8, ⟨by decide, Jv.log_small (by decide) (by decide)⟩, fun z H5 z0 z1 kp5 hh5 => ?_⟩
    have k45 : Jv.Kp h H4 H5 := (Jv.Kp.same (s1.trans (s2.trans (s3.trans (s4.trans (s5.trans (s6.trans (s7.trans s8)))))))).trans kp5
    have ep := kp5 _ _ nh8 f8
    have g1 := Jv.hide_one nh1 (kp5 _ _ nh1 (s8 _ _ (s7 _ _ (s6 _ _ (s5 _ _ (s4 _ _ (s3 _ _ (s2 _ _ f1))))))))
    have g2 := Jv.hide_one nh2 (kp5 _ _ nh2 (s8 _ _ (s7 _ _ (s6 _ _ (s5 _ _ (s4 _ _ (s3 _ _ f2)))))))
    have g3 := Jv.hide_one nh3 (kp5 _ _ nh3 (s8 _ _ (s7 _ _ (s6 _ _ (s5 _ _ (s4 _ _ f3))))))
    have g4 := Jv.hide_one nh4 (kp5 _ _ nh4 (s8 _ _ (s7 _ _ (s6 _ _ (s5 _ _ f4)))))
    have g5 := Jv.hide_one nh5 (kp5 _ _ nh5 (s8 _ _ (s7 _ _ (s6 _ _ f5))))
    have g6 := Jv.hide_one nh6 (kp5 _ _ nh6 (s8 _ _ (s7 _ _ f6)))
    have g7 := Jv.hide_one nh7 (kp5 _ _ nh7 (s8 _ _ f7))
    walk_at "r"
    show rIxL K (.ref t8) (.int z) H5 _
    refine Jv.pickH (H2 := Jv.hide [h] H5) (ds := [.none, .int 7, .str "ab", .list [], .tuple [], .list [.list []], .list [.list [], .list []]]) ep
      (.cons .non (.cons (.int _) (.cons (.str _) (.cons (.lst g1 .nil) (.cons (.tup (Jv.sqT_at g2) .nil) (.cons (.lst g4 (.cons (.lst g3 .nil) .nil)) (.cons (.lst g7 (.cons (.lst g5 .nil) (.cons (.lst g6 .nil) .nil))) .nil))))))) z0 z1 fun v d hd dv => fin v d H5 dv ?_ k45 hh5
    simp only [List.mem_cons, List.not_mem_nil, or_false] at hd
    have fe : Jv.few1 (.list []) := few1_of rfl (by decide)
    rcases hd with rfl | rfl | rfl | rfl | rfl | rfl | rfl
    · exact few2_flat rfl
    · exact few2_flat rfl
    · exact few2_flat rfl
    · exact few2_of (by decide) fun _ m => nomatch m
    · exact fun es e => by cases e; exact ⟨by decide, fun _ m => nomatch m⟩
    · exact few2_of (by decide) fun e m => by rw [List.mem_singleton.mp m]; exact fe
    · exact few2_of (by decide) fun e m => by
        rcases List.mem_cons.mp m with z | m
        · rw [z]; exact fe
        · rw [List.mem_singleton.mp m]; exact fe
  walk_at "r"
  refine ⟨fun σ H' => ∃ r d y5 y6, σ = [some (.ref h), some x, some r, some (.int way), some (.int e), y5, y6] ∧ Jv.Dv K (Jv.hide [h] H') r d ∧ Jv.few2 d ∧ Jv.Kp h H H' ∧ Jv.Hand H' h hl, ?_, ?_⟩
  case refine_2 =>
    rintro σ H5 ⟨r, d, y5, y6, rfl, dv, f3, kp5, hh5⟩
    walk_at "r"
    exact k r d H5 dv f3 kp5 hh5
  walk_at "r"
  refine Jv.r_decI (fun _ => ?_) (fun _ => ?_)
  · walk_at "r"
    refine Jv.r_ixL (Jv.sqL_at eD) (Jv.at_i (by omega) (by rw [Int.toNat_natCast]; exact r1)) ?_
    walk_at "r"
    intro t1 h1
    have n1 := Jv.same_new (u := .lst [.int 1]) h1
    walk_at "r"
    refine ⟨R, t1, line.map V.int, _, rfl, rfl, n1 _ _ r4, upd_same, Jv.small_of (by rw [List.length_map]; show line.length + 1 ≤ 1000; omega), fun p1 h2 => ?_⟩
    have n2 := Jv.same_new (u := .lst (line.map V.int ++ [.int 1])) h2
    have n12 := n1.trans n2
    have hh5 := (hh4.same n1).same n2
    obtain ⟨np, _⟩ := (hh4.same n1).ne2 h2
    have npD : p1 ≠ D := fun z => by rw [z, n1 _ _ eD] at h2; cases h2
    walk_at "r"
    refine ⟨D, xs, e, e, rfl, rfl, n12 _ _ eD, Jv.ixN_of (by omega), ?_⟩
    have hid := Jv.hide_same (N := [D, h]) n12
    have ei : line.map V.int ++ [.int 1] = (line ++ [1]).map V.int := by rw [List.map_append]; rfl
    refine ⟨.ref D, _, none, none, rfl, setD nDh (Jv.DvAll.set (d := rowL (line ++ [1])) (.lst (Jv.hide_at (fun m => by
      rcases List.mem_cons.mp m with z | m
      · exact npD z
      · exact np (List.mem_singleton.mp m)) upd_same) (by rw [ei]; exact Jv.dv_ints _)) e (al4.same hid)), ?_, ?_, hh5.upd nDh (fun z => ?_)⟩
    · refine few2_of (by rw [List.length_set, List.length_map, hw.hp]; omega) fun r hr => ?_
      rcases mem_set hr with hr | rfl
      · exact fR r hr
      · exact few1_ints _ (by rw [List.length_append, r3]; simp; omega)
    · exact kpA D _ _ List.mem_cons_self (Jv.Kp.same n12)
    · exact nAl D List.mem_cons_self z
  walk_at "r"
  refine Jv.r_decI (fun _ => ?_) (fun _ => ?_)
  · walk_at "r"
    intro t1 h1
    obtain ⟨m1, _⟩ := hh4.ne2 h1
    generalize e1 : upd H4 t1 (.tup []) = G1
    obtain ⟨n1, f1⟩ := Jv.new_of h1 e1
    have hg1 := hh4.same n1
    clear e1
    walk_at "r"
    intro t2 h2
    obtain ⟨m2, _⟩ := hg1.ne2 h2
    generalize e2 : upd G1 t2 (.lst [.non, .int 3, .ref t1, .str "x"]) = G2
    obtain ⟨n2, f2⟩ := Jv.new_of h2 e2
    have hg2 := hg1.same n2
    clear e2 h2
    walk_at "r"
    refine ⟨h, hl, 4, rfl, hg2, ⟨by decide, Jv.log_small (by decide) (by decide)⟩, fun z H5 z0 z1 kp5 hh5 => ?_⟩
    have k45 : Jv.Kp h H4 H5 := (Jv.Kp.same (n1.trans n2)).trans kp5
    have ep := kp5 _ _ m2 f2
    have et := kp5 _ _ m1 (n2 _ _ f1)
    have tD : t1 ≠ D := fun z => by rw [z, eD] at h1; cases h1
    walk_at "r"
    have hid : Same (Jv.hide [D, h] H4) (Jv.hide [D, h] H5) := k45.hideM (by simp)
    show rIxL K (.ref t2) (.int z) H5 _
    refine Jv.pickH (H2 := Jv.hide [D, h] H5) (ds := [.none, .int 3, .tuple [], .str "x"]) ep
      (.cons .non (.cons (.int _) (.cons (.tup (Jv.sqT_at (Jv.hide_at (fun m => by
        rcases List.mem_cons.mp m with z | m
        · exact tD z
        · exact m1 (List.mem_singleton.mp m)) et)) .nil) (.cons (.str _) .nil)))) z0 z1 fun v d hd dv => ?_
    walk_at "r"
    refine ⟨D, xs, e, e, rfl, rfl, k45 _ _ nDh eD, Jv.ixN_of (by omega), ?_⟩
    refine ⟨.ref D, _, none, none, rfl, setD nDh (Jv.DvAll.set dv e (al4.same hid)), few2_of (by rw [List.length_set, List.length_map, hw.hp]; omega) fun r hr => ?_, kpA D _ _ List.mem_cons_self k45, hh5.upd nDh (nAl D List.mem_cons_self)⟩
    rcases mem_set hr with hr | rfl
    · exact fR r hr
    · simp only [List.mem_cons, List.not_mem_nil, or_false] at hd
      rcases hd with rfl | rfl | rfl | rfl
      · exact few1_flat rfl
      · exact few1_flat rfl
      · exact few1_of rfl (by decide)
      · exact few1_flat rfl
  walk_at "r"
  refine Jv.r_decI (fun _ => ?_) (fun _ => ?_)
  · walk_at "r"
    have alh : Jv.DvAll K (Jv.hide [h] H4) xs (L.map rowL) := al4.same Jv.hide_less
    refine ⟨D, D, xs, xs, rfl, rfl, eD, eD, Jv.small_of (by first | omega | (simp only [List.length_append]; omega)), fun p1 h1 => ?_⟩
    have n1 := Jv.same_new (u := .lst (xs ++ xs)) h1
    walk_at "r"
    refine ⟨p1, D, (xs ++ xs), xs, rfl, rfl, upd_same, (n1 _ _ eD), Jv.small_of (by first | omega | (simp only [List.length_append]; omega)), fun p2 h2 => ?_⟩
    have n2 := Jv.same_new (u := .lst ((xs ++ xs) ++ xs)) h2
    walk_at "r"
    refine ⟨p2, D, ((xs ++ xs) ++ xs), xs, rfl, rfl, upd_same, n2 _ _ (n1 _ _ (eD)), Jv.small_of (by first | omega | (simp only [List.length_append]; omega)), fun p3 h3 => ?_⟩
    have n3 := Jv.same_new (u := .lst (((xs ++ xs) ++ xs) ++ xs)) h3
    walk_at "r"
    refine ⟨p3, D, (((xs ++ xs) ++ xs) ++ xs), xs, rfl, rfl, upd_same, n3 _ _ (n2 _ _ (n1 _ _ (eD))), Jv.small_of (by first | omega | (simp only [List.length_append]; omega)), fun p4 h4 => ?_⟩
    have n4 := Jv.same_new (u := .lst ((((xs ++ xs) ++ xs) ++ xs) ++ xs)) h4
    walk_at "r"
    refine ⟨p4, D, ((((xs ++ xs) ++ xs) ++ xs) ++ xs), xs, rfl, rfl, upd_same, n4 _ _ (n3 _ _ (n2 _ _ (n1 _ _ (eD)))), Jv.small_of (by first | omega | (simp only [List.length_append]; omega)), fun p5 h5 => ?_⟩
    have n5 := Jv.same_new (u := .lst (((((xs ++ xs) ++ xs) ++ xs) ++ xs) ++ xs)) h5
    walk_at "r"
    refine ⟨p5, D, (((((xs ++ xs) ++ xs) ++ xs) ++ xs) ++ xs), xs, rfl, rfl, upd_same, n5 _ _ (n4 _ _ (n3 _ _ (n2 _ _ (n1 _ _ (eD))))), Jv.small_of (by first | omega | (simp only [List.length_append]; omega)), fun p6 h6 => ?_⟩
    have n6 := Jv.same_new (u := .lst ((((((xs ++ xs) ++ xs) ++ xs) ++ xs) ++ xs) ++ xs)) h6
    have n16 := n1.trans (n2.trans (n3.trans (n4.trans (n5.trans n6))))
    have n15 := n1.trans (n2.trans (n3.trans (n4.trans n5)))
    obtain ⟨np, _⟩ := (hh4.same n15).ne2 h6
    walk_at "r"
    have al7 := (((((alh.app alh).app alh).app alh).app alh).app alh).app alh
    refine ⟨.ref p6, .list _, none, none, rfl, .lst (Jv.hide_at (fun m => np (List.mem_singleton.mp m)) upd_same) (al7.same (Jv.hide_same n16)), ?_, kp04.trans (Jv.Kp.same n16), hh4.same n16⟩
    refine few2_of (by simp only [List.length_append, List.length_map, hw.hp]; omega) fun r hr => ?_
    simp only [List.mem_append] at hr
    rcases hr with (((((hr | hr) | hr) | hr) | hr) | hr) | hr <;> exact fR r hr
  walk_at "r"
  intro t1 h1
  obtain ⟨m1, _⟩ := hh4.ne2 h1
  generalize e1 : upd H4 t1 (.tup [.int 1]) = G1
  obtain ⟨n1, f1⟩ := Jv.new_of h1 e1
  have hg1 := hh4.same n1
  clear e1
  walk_at "r"
  intro t2 h2
  obtain ⟨m2, _⟩ := hg1.ne2 h2
  generalize e2 : upd G1 t2 (.lst _) = G2
  obtain ⟨n2, f2⟩ := Jv.new_of h2 e2
  have hg2 := hg1.same n2
  clear e2 h2
  walk_at "r"
  refine ⟨h, hl, 8, rfl, hg2, ⟨by decide, Jv.log_small (by decide) (by decide)⟩, fun z H5 z0 z1 kp5 hh5 => ?_⟩
  have k45 : Jv.Kp h H4 H5 := (Jv.Kp.same (n1.trans n2)).trans kp5
  have ep := kp5 _ _ m2 f2
  have et := kp5 _ _ m1 (n2 _ _ f1)
  have tD : t1 ≠ D := fun z => by rw [z, eD] at h1; cases h1
  have tR : t1 ≠ R := fun z => by rw [z, r4] at h1; cases h1
  walk_at "r"
  show rIxL K (.ref t2) (.int z) H5 _
  refine Jv.pickH (H2 := Jv.hide [R, D, h] H5) (ds := [.int (-1), .int (10 ^ Int.toNat 6 + 1), .bool true, .none, .str "0", .tuple [.int 1], .int (10 ^ Int.toNat 30), .bool false]) ep
    (.cons (.int _) (.cons (.int _) (.cons (.bl _) (.cons .non (.cons (.str _) (.cons (.tup (Jv.sqT_at (Jv.hide_at (fun m => by
      rcases List.mem_cons.mp m with z | m
      · exact tR z
      · rcases List.mem_cons.mp m with z | m
        · exact tD z
        · exact m1 (List.mem_singleton.mp m)) et)) (.cons (.int _) .nil)) (.cons (.int _) (.cons (.bl _) .nil)))))))) z0 z1 fun v d hd dv => ?_
  walk_at "r"
  refine Jv.r_ixL (Jv.sqL_at (k45 _ _ nDh eD)) (Jv.at_i (by omega) (by rw [Int.toNat_natCast]; exact r1)) ?_
  walk_at "r"
  refine Jv.r_ixL (Jv.sqL_at (k45 _ _ nDh eD)) (Jv.at_i (by omega) (by rw [Int.toNat_natCast]; exact r1)) ?_
  have eR5 := k45 _ _ r6 r4
  walk_at "r"
  rw [List.length_map]
  refine ⟨h, hl, _, rfl, hh5, ⟨by omega, Jv.log_small (by omega) (by omega)⟩, fun z2 H6 z3 z4 kp6 hh6 => ?_⟩
  obtain ⟨w', rfl⟩ : ∃ n : Nat, z2 = n := ⟨z2.toNat, by omega⟩
  walk_at "r"
  refine ⟨R, line.map V.int, w', w', rfl, rfl, kp6 _ _ r6 eR5, Jv.ixN_of (by rw [List.length_map]; omega), ?_⟩
  have k46 := k45.trans kp6
  have hidR : Same (Jv.hide [R, D, h] H5) (Jv.hide [R, D, h] H6) := kp6.hideM (by simp)
  have row : Jv.DvAll K (Jv.hide [R, D, h] H6) ((line.map V.int).set w' v) ((line.map PyData.int).set w' d) := Jv.DvAll.set (dv.same hidR) w' (Jv.dv_ints line)
  rw [← Jv.hide_upd (o := .lst ((line.map V.int).set w' v))] at row
  have dR : Jv.Dv K (Jv.hide [h] (upd H6 R (.lst ((line.map V.int).set w' v)))) (.ref R) (.list ((line.map PyData.int).set w' d)) :=
    .lst (Jv.hide_at (fun m => r6 (List.mem_singleton.mp m)) upd_same) (row.same (Jv.hide_less.trans Jv.hide_less))
  have oldk : ∀ a ∈ D :: A', a ≠ R → ∀ o, H4 a = some o → Jv.hide [h] (upd H6 R (.lst ((line.map V.int).set w' v))) a = some o := fun a m na o e => Jv.hide_at (fun m2 => nAA a m (List.mem_singleton.mp m2)) (by rw [upd_ne na]; exact k46 _ _ (nAA a m) e)
  have all := chgR (.ref R) _ _ (fun a m na o e => oldk a (List.mem_cons_of_mem _ m) na o e) dR
  rw [set_same r1] at all
  refine ⟨.ref D, .list _, _, _, rfl, .lst (oldk D List.mem_cons_self (fun z => r7 z.symm) _ eD) all, ?_, kpA R _ _ (List.mem_cons_of_mem _ r8) k46, hh6.upd r6 (nAl R (List.mem_cons_of_mem _ r8))⟩
  refine few2_of (by rw [List.length_set, List.length_map, hw.hp]; omega) fun r' hr => ?_
  rcases mem_set hr with hr | rfl
  · exact fR r' hr
  · exact few1_of rfl (by rw [List.length_set, List.length_map]; omega)
end
end K50

namespace K50
open PySem PySem.Spec PyProof.Rows L2
/-! ### weights added, as the law does it; weights turned -/
theorem shaped_due (dw : PyData) (h : ∀ f, faultW dw = some f → SeqAt.shaped (.str f) = true) : SeqAt.shaped (dueD dw) = true := by
  cases e : faultW dw with
  | none => unfold dueD; rw [e]; exact shaped_linW _
  | some f => rw [dueD_bad e]; exact h f e
theorem fault_word {dw : PyData} {f : Str} (h : faultW dw = some f) : f = ("sides" : Str) ∨ f = ("weight" : Str) := by
  unfold faultW at h
  split at h
  · cases h; exact .inl rfl
  · split at h
    · cases h; exact .inr rfl
    · cases h
theorem shaped_dueW (dw : PyData) : SeqAt.shaped (dueD dw) = true := shaped_due dw fun f h => by
  rcases fault_word h with rfl | rfl <;> decide +kernel
theorem shaped_unlike : SeqAt.shaped (.tuple [.str "unlike", .str "sides"]) = true := by decide +kernel
theorem shaped_plus (L M : List (List Int)) (p q p2 q2 : Nat) : SeqAt.shaped (plusD L M p q p2 q2) = true := by
  unfold plusD
  split
  · exact shaped_dueW _
  · exact shaped_unlike
theorem shaped_times (L : List (List Int)) (d : PyData) : SeqAt.shaped (timesD L d) = true := by
  have hs : SeqAt.shaped (.str "size") = true := by decide +kernel
  unfold timesD
  cases d with
  | int b => dsimp only; split; exact shaped_dueW _; exact hs
  | _ => exact hs
theorem shaped_side : SeqAt.shaped (.tuple [.str "side", .none]) = true := by decide +kernel
theorem shaped_lot (s : Int) : SeqAt.shaped (.tuple [.str "lot", .int s]) = true := by
  have h : PyData.canLay0 (.str "lot") = true := by decide +kernel
  refine shaped_of (by simp [PyData.canLay0, PyData.canLayAll0] at h ⊢; exact h) (by simp [PyData.depth, PyData.depthAll])
section
variable {P : Program} {w : World} {K : PySem.W.Frag} {mg : Str → Option Value} {base : Heap}
theorem ok_Ladded_due (T : Tx) (O : Ok K mg T) : FnOk P w K mg base CX0 4 T.f_Ladded_due T.d_Ladded_due ["_law_one", "_law_other"] (sp_Ladded_due K) := by
  refine O.F_Ladded_due.ok sc_Ladded_due (fun vs H Q E h => by obtain ⟨_, _, _, _, _, _, _, _, rfl, _⟩ := h; rfl) (fun cdv A outer s H vs Q E hr h => ?_)
  obtain ⟨x, y, L, M, p, q, p2, q2, rfl, hx, hw, hy, hm, k⟩ := h
  refine ⟨_, (pss_cons (ps_if (pt_cmpR (r := rNeD K) (op_neD hr.units) (pe_tup (pa_cons (pe_callB (r := Jv.rLenK K) Jv.cr_len (by rfl) O.z_len (by decide +kernel) (pa_cons (pv 0) pa_nil)) (pa_cons (pe_callB (r := Jv.rLenK K) Jv.cr_len (by rfl) O.z_len (by decide +kernel) (pa_cons (pe_ix (r := rIx K) ix_seq (pv 0) pe_int (fun _ _ => rfl)) pa_nil)) pa_nil))) (pe_tup (pa_cons (pe_callB (r := Jv.rLenK K) Jv.cr_len (by rfl) O.z_len (by decide +kernel) (pa_cons (pv 1) pa_nil)) (pa_cons (pe_callB (r := Jv.rLenK K) Jv.cr_len (by rfl) O.z_len (by decide +kernel) (pa_cons (pe_ix (r := rIx K) ix_seq (pv 1) pe_int (fun _ _ => rfl)) pa_nil)) pa_nil))) (nomark _)) (pss_one (ps_ret (pe_tup (pa_cons pe_str (pa_cons pe_str pa_nil))))) pss_nil)
  (pss_cons (ps_set (i := 2) sc_Ladded_due.nd rfl (Or.inl rfl) (pe_lst pa_nil))
  (pss_cons (ps_for PassesOwn.never rfl (show PI _ _ _ (Jv.iZipX K _) from Jv.pi_zipX (by rfl) O.z_zip (pa_cons (pv 0) (pa_cons (pv 1) pa_nil))) (pg_tup rfl (pgs_cons (pg_name (i := 3) sc_Ladded_due.nd rfl (Or.inl rfl)) (pgs_cons (pg_name (i := 4) sc_Ladded_due.nd rfl (Or.inl rfl)) pgs_nil))) (pss_one (ps_expr (show PE _ _ (tBM K _ _ _ _) from pe_bm PySem.F.plainAttrs_list PySem.F.slot_list_append PySem.F.type_list_append mt_append (pv 2) (pa_cons (pe_lc (own := [("_law_first", 5), ("_law_second", 6)]) (by rfl) sc_Ladded_due.nd (show PI _ _ _ (Jv.iZipX K _) from Jv.pi_zipX (by rfl) O.z_zip (pa_cons (pv 3) (pa_cons (pv 4) pa_nil))) (blkOk_by (own := [("_law_first", 5), ("_law_second", 6)]) (N := ["_law_one", "_law_other", "_law_sums", "_law_line", "_law_more", "_law_first", "_law_second"]) (sc := defScope s_Ladded_due) (scope := ({ kind := .function, names := [(".0", .local), ("_law_first", .local), ("_law_second", .local)], isGenerator := false, isCoroutine := false } : Scope)) (by decide +kernel)) (fun _ _ _ _ _ => (show PG _ _ (gTup K 2 _) from pg_tup rfl (pgs_cons (pg_name (i := 5) sc_Ladded_due.nd rfl (Or.inl rfl) (Or.inr rfl)) (pgs_cons (pg_name (i := 6) sc_Ladded_due.nd rfl (Or.inl rfl) (Or.inr rfl)) pgs_nil)))) (fun _ _ _ _ _ => pts_nil) (fun _ _ _ _ _ => (pe_op op_add (pv 5) (pv 6)))) pa_nil)))))
  (pss_one (ps_ret (pe_call (ok_Lmade_due T O) (hr.mono (by decide)) (by rfl) O.m_Lmade_due O.F_Lmade_due.kp O.b_Lmade_due .nil pass0 (pa_cons (pv 2) pa_nil))))))), ?_⟩
  obtain ⟨A, ws, rfl, hA, alA⟩ := Jv.lst_of hx
  obtain ⟨B, us, rfl, hB, alB⟩ := Jv.lst_of hy
  have lA := alA.len
  have lB := alB.len
  rw [List.length_map] at lA lB
  have hLp := hw.hp
  have hMp := hm.hp
  have p0 := hw.p0
  have p6 := hw.p6
  have q6 := hw.q6
  have p20 := hm.p0
  obtain ⟨l0, el0⟩ : ∃ l0, L[0]? = some l0 := ⟨_, List.getElem?_eq_getElem (by omega)⟩
  obtain ⟨m0, em0⟩ : ∃ m0, M[0]? = some m0 := ⟨_, List.getElem?_eq_getElem (by omega)⟩
  obtain ⟨v0, hv0, dv0⟩ := alA.of (i := 0) (d := .list (l0.map .int)) (by rw [List.getElem?_map, el0]; rfl)
  obtain ⟨u0, hu0, du0⟩ := alB.of (i := 0) (d := .list (m0.map .int)) (by rw [List.getElem?_map, em0]; rfl)
  obtain ⟨xs1, sk1, al1⟩ := dv0.sk rfl
  obtain ⟨xs2, sk2, al2⟩ := du0.sk rfl
  have l1 := al1.len
  have l2 := al2.len
  rw [List.length_map, hw.hq l0 (List.mem_of_getElem? el0)] at l1
  rw [List.length_map, hm.hq m0 (List.mem_of_getElem? em0)] at l2
  walk_at "r"
  refine Jv.Sk.ix (xs := ws) ⟨A, rfl, .inl (Jv.sqL_at hA)⟩ (Jv.at_i (k := 0) (by decide) hv0) ?_
  walk_at "r"
  refine sk1.len ?_
  walk_at "r"
  intro t1 ht1
  have n1 := Jv.same_new (u := .tup [.int ws.length, .int xs1.length]) ht1
  have hB1 := n1 _ _ hB
  walk_at "r"
  refine Jv.Sk.ix (xs := us) ⟨B, rfl, .inl (Jv.sqL_at hB1)⟩ (Jv.at_i (k := 0) (by decide) hu0) ?_
  walk_at "r"
  refine (sk2.same n1).len ?_
  walk_at "r"
  intro t2 ht2
  have n2 := Jv.same_new (u := .tup [.int us.length, .int xs2.length]) ht2
  have d1 := Jv.Dv.tup (K := K) (Jv.sqT_at (n2 _ _ upd_same)) (.cons (.int ws.length) (.cons (.int xs1.length) .nil))
  have d2 := Jv.Dv.tup (K := K) (Jv.sqT_at (upd_same (H := upd H t1 (.tup [.int ws.length, .int xs1.length])) (a := t2) (o := .tup [.int us.length, .int xs2.length]))) (.cons (.int us.length) (.cons (.int xs2.length) .nil))
  have s0 := n1.trans n2
  generalize upd (upd H t1 (.tup [.int ws.length, .int xs1.length])) t2 (.tup [.int us.length, .int xs2.length]) = G at d1 d2 s0 ⊢
  walk_at "r"
  refine ⟨_, _, d1.dp, d2.dp, shaped_ii _ _, shaped_ii _ _, ?_⟩
  rw [Jv.eqv_i2]
  have eqd : ((ws.length : Int) = us.length ∧ (xs1.length : Int) = xs2.length) ↔ (p2 = p ∧ q2 = q) := by omega
  by_cases hpq : p2 = p ∧ q2 = q
  case neg =>
    rw [decide_eq_false (fun z => hpq (eqd.mp z))]
    walk_at "r"
    exact fun r hr => k _ _ (s0.trans (Jv.same_new hr)) (by unfold plusD; rw [if_neg hpq]; exact .tup (Jv.sqT_at upd_same) (.cons (.str _) (.cons (.str _) .nil)))
  rw [decide_eq_true (eqd.mpr hpq)]
  have ek : plusD L M p q p2 q2 = dueD (linLw (addW L M)) := if_pos hpq
  rw [ek] at k
  obtain ⟨rfl, rfl⟩ := hpq
  walk_at "r"
  intro S hS0
  have sS := Jv.same_new (u := .lst []) hS0
  have s0S := s0.trans sS
  walk_at "r"
  have lad : (addW L M).length = p2 := by unfold addW; rw [List.length_zipWith]; omega
  refine Jv.forZL (n := p2) (xs := ws) (ys := us) (fun P hP => ?_) (fun j σ H1 => ∃ y3 y4 y5 y6 xs, σ = [some (.ref A), some (.ref B), some (.ref S), y3, y4, y5, y6] ∧ Same G H1 ∧ H1 S = some (.lst xs) ∧ Jv.DvAll K (Jv.hide [S] H1) xs (((addW L M).take j).map fun line => .list (line.map .int)) ∧ xs.length = j)
    ⟨_, _, _, _, [], rfl, sS, upd_same, .nil, rfl⟩ (by omega) (fun i σ H1 ⟨_, _, _, _, _, _, s, _⟩ => ⟨Jv.sqL_at (s _ _ (s0 _ _ hA)), Jv.sqL_at (s _ _ (s0 _ _ hB))⟩) ?_ ?_
  · walk_at "r"
    exact hP
  · rintro j x y T' σ1 H1 hx hy hT ⟨y3, y4, y5, y6, xs, rfl, s1, eS, al, ln⟩
    have hj := (List.getElem?_eq_some_iff.mp hx).1
    have nT := Jv.same_new (u := .tup [x, y]) hT
    refine ⟨T', _, rfl, Jv.sqT_at upd_same, rfl, _, _, rfl, _, _, rfl, rfl, ?_⟩
    obtain ⟨d1, c1, c2⟩ := alA.at hx
    obtain ⟨d2, c3, c4⟩ := alB.at hy
    rw [List.getElem?_map] at c1 c3
    obtain ⟨line, c5, rfl⟩ := Option.map_eq_some_iff.mp c1
    obtain ⟨more, c6, rfl⟩ := Option.map_eq_some_iff.mp c3
    have l1 := hw.hq line (List.mem_of_getElem? c5)
    have l2 := hm.hq more (List.mem_of_getElem? c6)
    have sT := s1.trans nT
    have eS' := nT _ _ eS
    have al' := al.same (Jv.hide_same nT)
    generalize upd H1 T' (.tup [x, y]) = H2 at sT eS' al' ⊢
    obtain ⟨X, xl, rfl, hX, aX⟩ := Jv.lst_of ((c2.same s0).same sT)
    obtain ⟨Y, yl, rfl, hY, aY⟩ := Jv.lst_of ((c4.same s0).same sT)
    obtain rfl := Jv.dv_intsV aX
    obtain rfl := Jv.dv_intsV aY
    have hN : Jv.Held [S] H2 := fun b m => by rw [List.mem_singleton.mp m]; exact ⟨_, eS'⟩
    walk_at "r"
    refine Jv.lcZL (N := [S]) (fun P hP => ?_) (Jv.sqL_at hX) (Jv.sqL_at hY) hN ((List.zipWith (· + ·) line more).map .int) (by rw [List.length_map, List.length_zipWith, List.length_map, List.length_map]) (by rw [List.length_map, List.length_map]; omega) (fun _ _ => rfl) (fun i x y e D H3 hx hy he s3 hN3 hD P hP => ?_) (fun D zs H3 s3 hD eD dv _ => ?_)
    · walk_at "r"
      exact hP
    · obtain ⟨m, hm1, rfl⟩ := Jv.map_at hx
      obtain ⟨n, hn1, rfl⟩ := Jv.map_at hy
      have ee : e = .int (m + n) := by
        rw [List.getElem?_map, List.getElem?_zipWith, hm1, hn1] at he
        exact (Option.some.inj he).symm
      subst ee
      walk_at "r"
      exact hP _ _ (Same.refl _) (.int _)
    · walk_at "r"
      refine Jv.r_app (s3 _ _ eS') (by omega) ?_
      have nD : D ≠ S := fun z => by rw [z, eS'] at hD; cases hD
      refine ⟨_, _, _, _, xs ++ [.ref D], rfl, ?_, upd_same, ?_, by rw [List.length_append, ln]; rfl⟩
      · intro c o hc
        rw [upd_ne (ne_of_none hc hS0)]
        exact s3 _ _ (sT _ _ hc)
      · rw [Jv.hide_upd]
        have c7 : (addW L M)[j]? = some (List.zipWith (· + ·) line more) := by unfold addW; rw [List.getElem?_zipWith, c5, c6]
        rw [Jv.take_more c7, List.map_append]
        exact Jv.DvAll.snoc (.lst (Jv.hide_at (fun m => nD (List.mem_singleton.mp m)) eD) dv) (al'.same (Jv.hide_same s3))
  · rintro σ1 H1 ⟨y3, y4, y5, y6, xs, rfl, s1, eS, al, ln⟩
    rw [List.take_of_length_le (by omega)] at al
    walk_at "r"
    refine ⟨_, linLw (addW L M), rfl, .lst eS (al.same Jv.hide_le), few_line (lineR_LL (L := addW L M)) (by omega) (fun line hl => ?_), fun r H' s' dv => k r H' (s0.trans (s1.trans s')) dv⟩
    obtain ⟨l0, m0, h1, _, rfl⟩ := zip_mem hl
    have := hw.hq l0 h1
    rw [List.length_zipWith]; omega
end
end K50

namespace Jv
open PySem PySem.Spec PyProof.Rows L2
section
variable {σ : L2.St} {H : Hp} {te : TE} {tl th : TO} {r : V → Option Int → Option Int → Hp → VK → Prop} {Q : VK} {P : Option Int → Hp → Prop}
theorem r_tSl (h : te σ H fun x H1 => tl σ H1 fun l H2 => th σ H2 fun u H3 => r x l u H3 Q) : tSl r te tl th σ H Q := h
theorem r_noPart (h : P none H) : tNoPart σ H P := h
theorem r_part (h : te σ H fun x H1 => ∃ i, x = .int i ∧ P (some i) H1) : tPart te σ H P := h
theorem r_partI {i : Int} {P : Int → Prop} (h : P i) : ∃ j, V.int i = .int j ∧ P j := ⟨i, rfl, h⟩
end
section
variable {K : PySem.W.Frag} {H H' : Hp} {Q : VK} {a b : Addr} {xs ys : List V} {lo hi : Option Int}
theorem r_slL (h : H a = some (.lst xs)) (q : ∀ p H', H p = none → Same H H' → H' p = some (.lst (cutV xs lo hi)) → Q (.ref p) H') : rSlL K (.ref a) lo hi H Q := ⟨a, xs, rfl, sqL_at h, fun p hp => q p _ hp (same_new hp) upd_same⟩
theorem r_cat (h1 : H a = some (.lst xs)) (h2 : H b = some (.lst ys)) (few : xs.length + ys.length ≤ 1000) (q : ∀ p H', H p = none → Same H H' → H' p = some (.lst (xs ++ ys)) → Q (.ref p) H') : rCat (.ref a) (.ref b) H Q :=
  ⟨a, b, xs, ys, rfl, rfl, h1, h2, small_of few, fun p hp => q p _ hp (same_new hp) upd_same⟩
theorem cut_take {k : Int} (h : 0 ≤ k) : cutV xs none (some k) = xs.take k.toNat := by
  obtain ⟨j, rfl⟩ : ∃ j : Nat, k = j := ⟨k.toNat, by omega⟩
  unfold cutV
  rw [HT.sIx_none, HT.sIx_nat, List.drop_zero, Nat.sub_zero, ← List.take_take, List.take_length]; rfl
theorem cut_drop {k : Int} (h : 0 ≤ k) (h2 : k.toNat ≤ xs.length) : cutV xs (some k) none = xs.drop k.toNat := by
  obtain ⟨j, rfl⟩ : ∃ j : Nat, k = j := ⟨k.toNat, by omega⟩
  unfold cutV
  rw [HT.sIx_none, HT.sIx_nat]
  have e : min j xs.length = j := by simp at h2; omega
  rw [e, List.take_of_length_le (by rw [List.length_drop]; omega)]; rfl
theorem DvAll.take : ∀ {vs : List V} {ds : List PyData} (n : Nat), DvAll K H vs ds → DvAll K H (vs.take n) (ds.take n)
  | _, _, 0, _ => by simp; exact .nil
  | _, _, n + 1, .nil => .nil
  | _, _, n + 1, .cons a b => .cons a (DvAll.take n b)
theorem DvAll.drop : ∀ {vs : List V} {ds : List PyData} (n : Nat), DvAll K H vs ds → DvAll K H (vs.drop n) (ds.drop n)
  | _, _, 0, h => h
  | _, _, n + 1, .nil => .nil
  | _, _, n + 1, .cons _ b => DvAll.drop n b
theorem DvAll.one {v : V} {d : PyData} (h : Dv K H v d) : DvAll K H [v] [d] := .cons h .nil
end
end Jv

local macro_rules | `(tactic| walk_at "r1") => `(tactic| first
  | with_reducible refine Jv.r_tSl ?_
  | with_reducible refine Jv.r_noPart ?_
  | with_reducible refine Jv.r_part ?_
  | with_reducible refine Jv.r_partI ?_)
namespace K50
open PySem PySem.Spec PyProof.Rows L2
/-! ### weights turned -/
theorem no_order {k : Nat} {d : PyData} {ns : List Int} (e : Jv.seqD d = some (ns.map .int)) (h : ¬ Jv.orderP (k : Nat) ns) : orderD (k : Nat) d = false := by
  rw [orderD_of e, decide_eq_false h]
theorem few_ints {d : PyData} {ns : List Int} (e : Jv.seqD d = some (ns.map .int)) (h : ns.length ≤ 60) : few60 d := fun ds e2 => by
  rw [e] at e2; cases e2; rw [List.length_map]; exact h
theorem no_rep {k : Nat} {z : Int} (h : 2 ≤ k) : ¬ Jv.orderP (k : Nat) (List.replicate k z) := fun ⟨_, pm⟩ => by
  have m : ∀ i : Nat, i < k → ((i : Nat) : Int) = z := fun i hi => by
    refine List.eq_of_mem_replicate (n := k) (pm.mem_iff.mpr (List.mem_map.mpr ⟨i, List.mem_range.mpr (by omega), rfl⟩))
  have h0 := m 0 (by omega)
  have h1 := m 1 (by omega)
  omega
theorem no_top {k : Nat} {ns : List Int} : ¬ Jv.orderP (k : Nat) (ns ++ [(k : Int)]) := fun ⟨h, _⟩ => by
  have := (h k (List.mem_append_right _ (List.mem_singleton.mpr rfl))).2
  omega
theorem no_neg {k : Nat} {ns : List Int} : ¬ Jv.orderP (k : Nat) ([-1] ++ ns) := fun ⟨h, _⟩ => by
  have := (h (-1) List.mem_cons_self).1
  omega
theorem intsD_no : ∀ {ns : List Int} {b : Bool}, intsD (ns.map .int ++ [.bool b]) = none
  | [], _ => rfl
  | a :: r, b => by
    show (intsD (r.map .int ++ [.bool b])).map (a :: ·) = none
    rw [intsD_no]; rfl
theorem no_bool {k : Int} {d : PyData} {ns : List Int} {b : Bool} (e : Jv.seqD d = some (ns.map .int ++ [.bool b])) : orderD k d = false := by
  unfold orderD; rw [e]; dsimp only; rw [intsD_no]
theorem order_of {k : Nat} {ns : List Int} (pm : ns.Perm (Jv.rgI k)) : Jv.orderP (k : Nat) ns := by
  refine ⟨fun z hz => ?_, by rw [Int.toNat_natCast]; exact pm⟩
  obtain ⟨i, hi, rfl⟩ := List.mem_map.mp (pm.mem_iff.mp hz)
  have := List.mem_range.mp hi
  omega
theorem _root_.Jv.lcL2 {K : PySem.W.Frag} {σ : L2.St} {H : Hp} {te : TE} {Q : VK} {xs : List V} {a : Addr} {j i : Nat} {N : List Addr} (hv : σ[i]? = some (some (.ref a))) (hx : SqL K H a xs) (hN : Jv.Held N H) (es : List PyData) (hl : es.length = xs.length) (few : xs.length ≤ 1000)
    (hs : ∀ i v e D H1, i < xs.length → xs[i]? = some v → es[i]? = some e → Same H H1 → Jv.Held (D :: N) H1 → H D = none → ∀ P : VK, (∀ y H2, Same H1 H2 → Jv.Dv K (Jv.hide (D :: N) H2) y e → P y H2) → te ((σ.set j none).set j (some v)) H1 P)
    (hd : ∀ D ys H1, Same H H1 → H D = none → H1 D = some (.lst ys) → Jv.DvAll K (Jv.hide N H1) ys es → Jv.DvAll K (Jv.hide (D :: N) H1) ys es → Q (.ref D) H1) : tLc (iList K (tVar i)) (gName j) tYes te [j] σ H Q :=
  ⟨_, hv, a, rfl, ⟨xs, hx⟩, Jv.lcD walk_list (fun H' s => s.seq hx) Jv.yat hN es hl few hs hd⟩
def turnW (side : Int) (L : List (List Int)) (ns : List Int) : List (List Int) := if side = 0 then rowP L ns else colP L ns
def sp_Lturned (K : PySem.W.Frag) (C : Addr) : Sp := fun vs H Q _ => ∃ h hl a x L, ∃ p q : Nat, vs = [.ref h, .ref a, x] ∧ Jv.Hand H h hl ∧ WAt K (Jv.hide [h] H) C a L p q ∧ Jv.Dv K (Jv.hide [h] H) x (linLw L) ∧ Gw L p q ∧
  ∀ H', Jv.Kp h H H' → Jv.Hand H' h hl → Q (.bl true) H'
section
variable {P : Program} {w : World} {K : PySem.W.Frag} {mg : Str → Option Value} {base : Heap}
theorem ok_Lturned (T : Tx) (O : Ok K mg T) : FnOk P w K mg base CX0 7 T.f_Lturned T.d_Lturned ["_law_hand_here", "_law_weights_here", "_law_lines"] (sp_Lturned K T.C_Weights) := by
  refine O.F_Lturned.ok sc_Lturned (fun vs H Q E h => by obtain ⟨_, _, _, _, _, _, _, rfl, _⟩ := h; rfl) (fun cdv A outer s H vs Q E hr h => ?_)
  obtain ⟨h, hl, a, x, L, p, q, rfl, hh, ha, hx, hw, k⟩ := h
  refine ⟨_, (pss_cons (ps_set (i := 3) sc_Lturned.nd rfl (Or.inl rfl) (pe_call (ok_Ldraw T O) (hr.mono (by decide)) (by rfl) O.m_Ldraw O.F_Ldraw.kp O.b_Ldraw .nil pass0 (pa_cons (pv 0) (pa_cons pe_int pa_nil))))
  (C8.pss_cut (ps_set (i := 4) sc_Lturned.nd rfl (Or.inr rfl) (pe_call (ok_Lorder T O) (hr.mono (by decide)) (by rfl) O.m_Lorder O.F_Lorder.kp O.b_Lorder .nil pass0 (pa_cons (pv 0) (pa_cons (pe_ifExp (pt_cmpR op_eq (pv 3) pe_int (nomark _)) (pe_callB (r := Jv.rLenK K) Jv.cr_len (by rfl) O.z_len (by decide +kernel) (pa_cons (pv 2) pa_nil)) (pe_callB (r := Jv.rLenK K) Jv.cr_len (by rfl) O.z_len (by decide +kernel) (pa_cons (pe_ix (r := rIx K) ix_seq (pv 2) pe_int (fun _ _ => rfl)) pa_nil))) pa_nil))))
  (C8.pss_cut (ps_if (pt_cmpR op_eq (pv 3) pe_int (nomark _)) (pss_one (ps_setLc (i := 5) (own := [("_law_kind", 7)]) (by rfl) sc_Lturned.nd rfl rfl (sw_true rfl rfl rfl (by decide +kernel)) (show PI _ _ _ (iList K _) from pi_list (pv 4)) (blkOk_by (own := [("_law_kind", 7)]) (N := ["_law_hand_here", "_law_weights_here", "_law_lines", "_law_side", "_law_order_here", "_law_turned_here", "_law_asked", "_law_kind", "_law_line"]) (sc := defScope s_Lturned) (scope := ({ kind := .function, names := [(".0", .local), ("_law_kind", .local), ("_law_lines", .free)], isGenerator := false, isCoroutine := false } : Scope)) (by decide +kernel)) (fun _ _ _ _ _ => (pg_name (i := 7) sc_Lturned.nd rfl (Or.inl rfl))) (fun _ _ _ _ _ => pts_nil) (fun _ _ _ _ _ => (pe_ix (r := rIx K) ix_seq (pv 2) (pv 7) (fun _ _ => rfl))))) (pss_one (ps_setLc (i := 5) (own := [("_law_line", 8)]) (by rfl) sc_Lturned.nd rfl rfl (sw_true rfl rfl rfl (by decide +kernel)) (Jv.piOr (show PI _ _ _ (iList K _) from pi_list (pv 2)) (show PI _ _ _ (iTup K _) from pi_tup (pv 2))) (blkOk_by (own := [("_law_line", 8)]) (N := ["_law_hand_here", "_law_weights_here", "_law_lines", "_law_side", "_law_order_here", "_law_turned_here", "_law_asked", "_law_kind", "_law_line"]) (sc := defScope s_Lturned) (scope := ({ kind := .function, names := [(".0", .local), ("_law_line", .cell), ("_law_order_here", .free)], isGenerator := false, isCoroutine := false } : Scope)) (by decide +kernel)) (fun _ _ _ _ _ => (pg_name (i := 8) sc_Lturned.nd rfl (Or.inr rfl))) (fun _ _ _ _ _ => pts_nil) (fun _ _ _ _ _ => (pe_lc (own := [("_law_kind", 7)]) (by rfl) sc_Lturned.nd (show PI _ _ _ (iList K _) from pi_list (pv 4)) (blkOk_by (own := [("_law_kind", 7)]) (N := ["_law_hand_here", "_law_weights_here", "_law_lines", "_law_side", "_law_order_here", "_law_turned_here", "_law_asked", "_law_kind", "_law_line"]) (sc := ({ kind := .function, names := [(".0", .local), ("_law_line", .cell), ("_law_order_here", .cell)], isGenerator := false, isCoroutine := false } : Scope)) (scope := ({ kind := .function, names := [(".0", .local), ("_law_kind", .local), ("_law_line", .free)], isGenerator := false, isCoroutine := false } : Scope)) (by decide +kernel)) (fun _ _ _ _ _ => (pg_name (i := 7) sc_Lturned.nd rfl (Or.inl rfl))) (fun _ _ _ _ _ => pts_nil) (fun _ _ _ _ _ => (pe_ix (r := rIx K) ix_seq (pv 8) (pv 7) (fun _ _ => rfl))))))))
  (pss_cons (ps_if (pt_cmpR (r := rNeD K) (op_neD hr.units) (pe_call (ok_Lrenumbered T O) (hr.mono (by decide)) (by rfl) O.m_Lrenumbered O.F_Lrenumbered.kp O.b_Lrenumbered .nil pass0 (pa_cons (pv 1) (pa_cons (pv 3) (pa_cons (pe_callTy (r := Jv.rTupOf K) call_tuple_of (by rfl) O.z_tuple (by decide +kernel) (pa_cons (pv 4) pa_nil)) pa_nil)))) (pe_call (ok_Ltuples T O) (hr.mono (by decide)) (by rfl) O.m_Ltuples O.F_Ltuples.kp O.b_Ltuples .nil pass0 (pa_cons (pv 5) pa_nil)) (nomark _)) (pss_one (ps_ret pe_bl)) pss_nil)
  (pss_cons (ps_for PassesOwn.never rfl (show PI _ _ _ (iList K _) from pi_list (pe_lst (pa_cons (pe_op op_cat (pv 4) (pe_slice (r := rSlL K) sl_list (pv 4) po_none (po_some pe_int))) (pa_cons (pe_slice (r := rSlL K) sl_list (pv 4) (po_some pe_int) po_none) (pa_cons (pe_op op_cat (pe_slice (r := rSlL K) sl_list (pv 4) (po_some pe_int) po_none) (pe_lst (pa_cons (pe_callB (r := Jv.rLenK K) Jv.cr_len (by rfl) O.z_len (by decide +kernel) (pa_cons (pv 4) pa_nil)) pa_nil))) (pa_cons pe_non (pa_cons (pe_op op_cat (pe_slice (r := rSlL K) sl_list (pv 4) (po_some pe_int) po_none) (pe_lst (pa_cons pe_bl pa_nil))) (pa_cons (pe_op op_cat (pe_lst (pa_cons (pe_un un_neg pe_int) pa_nil)) (pe_slice (r := rSlL K) sl_list (pv 4) (po_some pe_int) po_none)) pa_nil)))))))) (pg_name (i := 6) sc_Lturned.nd rfl (Or.inl rfl)) (pss_one (ps_if (pt_cmpR (r := rNeD K) (op_neD hr.units) (pe_call (ok_Lrenumbered T O) (hr.mono (by decide)) (by rfl) O.m_Lrenumbered O.F_Lrenumbered.kp O.b_Lrenumbered .nil pass0 (pa_cons (pv 1) (pa_cons (pv 3) (pa_cons (pv 6) pa_nil)))) (pe_tup (pa_cons pe_str (pa_cons (pv 3) pa_nil))) (nomark _)) (pss_one (ps_ret pe_bl)) pss_nil)))
  (C8.pss_cut (ps_if (PW.pt (pw_and (pt_cmpR op_gt (pe_callB (r := Jv.rLenK K) Jv.cr_len (by rfl) O.z_len (by decide +kernel) (pa_cons (pv 4) pa_nil)) pe_int (nomark _)) (pw_and1 (pt_cmpR (r := rNeD K) (op_neD hr.units) (pe_call (ok_Lrenumbered T O) (hr.mono (by decide)) (by rfl) O.m_Lrenumbered O.F_Lrenumbered.kp O.b_Lrenumbered .nil pass0 (pa_cons (pv 1) (pa_cons (pv 3) (pa_cons (pe_op op_rep (pe_lst (pa_cons (pe_ix (r := rIxL K) ix_list (pv 4) pe_int (fun _ _ => rfl)) pa_nil)) (pe_callB (r := Jv.rLenK K) Jv.cr_len (by rfl) O.z_len (by decide +kernel) (pa_cons (pv 4) pa_nil))) pa_nil)))) (pe_tup (pa_cons pe_str (pa_cons (pv 3) pa_nil))) (nomark _))))) (pss_one (ps_ret pe_bl)) pss_nil)
  (pss_one (ps_ret (pe_and (pe_cmpR (r := rEqD K) (op_eqD hr.units) (pe_call (ok_Lrenumbered T O) (hr.mono (by decide)) (by rfl) O.m_Lrenumbered O.F_Lrenumbered.kp O.b_Lrenumbered .nil pass0 (pa_cons (pv 1) (pa_cons pe_int (pa_cons (pv 4) pa_nil)))) (pe_tup (pa_cons pe_str (pa_cons pe_non pa_nil))) (nomark _)) (pe_one (pe_cmpR (r := rEqD K) (op_eqD hr.units) (show PE _ _ (tFld K _ _) from pe_fld (pv 1) rfl) (pe_call (ok_Ltuples T O) (hr.mono (by decide)) (by rfl) O.m_Ltuples O.F_Ltuples.kp O.b_Ltuples .nil pass0 (pa_cons (pv 2) pa_nil)) (nomark _)))))))))))), ?_⟩
  have p0 := hw.p0
  have p6 := hw.p6
  have q0 := hw.q0
  have q6 := hw.q6
  have lL := hw.hp
  walk_at "r"
  refine ⟨h, hl, 2, rfl, hh, ⟨by decide, Jv.log_small (by decide) (by decide)⟩, fun side H1 b0 b1 kp1 hh1 => ?_⟩
  have hx1 := hx.same kp1.hide
  have ha1 := ha.same kp1.hide
  walk_at "r"
  refine ⟨fun σ H' => ∃ (m : Nat) (r : Addr) (ns : List Int), ((side = 0 ∧ m = p) ∨ (side = 1 ∧ m = q)) ∧ σ = [some (.ref h), some (.ref a), some x, some (.int side), some (.ref r), none, none, none, none] ∧ ns.Perm (Jv.rgI m) ∧ H' r = some (.lst (ns.map V.int)) ∧ Jv.Kp h H1 H' ∧ Jv.Hand H' h hl, ?_, ?_⟩
  · obtain ⟨A, ws, rfl, hA, alA⟩ := Jv.lst_of (hx1.same Jv.hide_le)
    have lA := alA.len
    rw [List.length_map] at lA
    walk_at "r"
    refine Jv.r_decI (fun e0 => ?_) (fun e0 => ?_)
    · walk_at "r"
      refine ⟨h, hl, _, rfl, hh1, ⟨by omega, by omega⟩, fun r ns H2 pm nr er kp2 hh2 => ?_⟩
      walk_at "r"
      exact ⟨p, r, ns, .inl ⟨e0, rfl⟩, rfl, by rw [show p = ((ws.length : Nat) : Int).toNat by omega]; exact pm, er, kp2, hh2⟩
    · obtain ⟨l0, el0⟩ : ∃ l0, L[0]? = some l0 := ⟨_, List.getElem?_eq_getElem (by omega)⟩
      obtain ⟨v0, hv0, dv0⟩ := alA.of (i := 0) (d := .list (l0.map .int)) (by rw [List.getElem?_map, el0]; rfl)
      obtain ⟨xs1, sk1, al1⟩ := dv0.sk rfl
      have l1 := al1.len
      rw [List.length_map, hw.hq l0 (List.mem_of_getElem? el0)] at l1
      walk_at "r"
      refine Jv.Sk.ix (xs := ws) ⟨A, rfl, .inl (Jv.sqL_at hA)⟩ (Jv.at_i (k := 0) (by decide) hv0) ?_
      walk_at "r"
      refine sk1.len ?_
      walk_at "r"
      refine ⟨h, hl, _, rfl, hh1, ⟨by omega, by omega⟩, fun r ns H2 pm nr er kp2 hh2 => ?_⟩
      walk_at "r"
      exact ⟨q, r, ns, .inr ⟨by omega, rfl⟩, rfl, by rw [show q = ((xs1.length : Nat) : Int).toNat by omega]; exact pm, er, kp2, hh2⟩
  rintro σ H4 ⟨m, r, ns, hm, rfl, pm, er, kp2, hh4⟩
  have kp04 := kp1.trans kp2
  have hx4 := (hx1.same kp2.hide).same Jv.hide_le
  have ha4 := (ha1.same kp2.hide).same Jv.hide_le
  clear hx hx1 ha ha1 hh hh1 kp1 kp2
  have ord := order_of pm
  have lns := order_len ord
  have m1 : 1 ≤ m ∧ m ≤ 6 := by omega
  obtain ⟨A, ws, rfl, hA, alA⟩ := Jv.lst_of hx4
  have lA := alA.len
  rw [List.length_map] at lA
  have wU : Gw (turnW side L ns) p q := by
    unfold turnW
    rcases hm with ⟨rfl, rfl⟩ | ⟨rfl, rfl⟩
    · rw [if_pos rfl]; exact hw.rows ord
    · rw [if_neg (by decide)]; exact hw.cols ord
  refine ⟨fun σ H' => ∃ D, σ = [some (.ref h), some (.ref a), some (.ref A), some (.int side), some (.ref r), some (.ref D), none, none, none] ∧ Same H4 H' ∧ Jv.Dv K H' (.ref D) (linLw (turnW side L ns)), ?_, ?_⟩
  · walk_at "r"
    refine Jv.r_decI (fun e0 => ?_) (fun e0 => ?_)
    · have em : m = p := by omega
      have ordp : Jv.orderP p ns := em ▸ ord
      walk_at "r"
      refine Jv.lcL2 (K := K) (N := []) (j := 7) (i := 4) rfl (Jv.sqL_at er) .nil ((rowP L ns).map fun line => .list (line.map .int)) (by rw [List.length_map, List.length_map]; unfold rowP; rw [List.length_map]) (by rw [List.length_map]; omega) (fun i v e D1 H6 hi hv he s6 hN1 hD1 PP hP => ?_) (fun D1 ys H6 s6 hD1 eD1 dv1 _ => ?_)
      · obtain ⟨z, hz, rfl⟩ := Jv.map_at hv
        have hzb := ordp.1 z (List.mem_of_getElem? hz)
        obtain ⟨line, hline⟩ : ∃ line, L[z.toNat]? = some line := ⟨_, List.getElem?_eq_getElem (by omega)⟩
        have ee : e = .list (line.map .int) := by
          unfold rowP at he
          rw [List.map_map, List.getElem?_map, hz] at he
          have := (Option.some.inj he).symm
          rw [this]
          show PyData.list (((L[z.toNat]?).getD []).map .int) = _
          rw [hline]; rfl
        subst ee
        obtain ⟨wv1, c1, c2⟩ := alA.of (i := z.toNat) (d := .list (line.map .int)) (by rw [List.getElem?_map, hline]; rfl)
        walk_at "r"
        refine Jv.Sk.ix (xs := ws) ⟨A, rfl, .inl (Jv.sqL_at (s6 _ _ hA))⟩ (Jv.at_i (by omega) c1) ?_
        refine hP _ _ (Same.refl _) ?_
        have c3 : Jv.Dv K (Jv.hide [] H4) wv1 (.list (line.map .int)) := by rw [Jv.hide_nil]; exact c2
        exact c3.same (Jv.hide_more s6 hD1)
      · walk_at "r"
        rw [Jv.hide_nil] at dv1
        exact ⟨D1, rfl, s6, by unfold turnW; rw [if_pos e0]; exact .lst eD1 dv1⟩
    · have em : m = q := by omega
      have ordq : Jv.orderP q ns := em ▸ ord
      walk_at "r"
      refine Jv.lcS2 (K := K) (N := []) (j := 8) (i := 2) rfl ⟨A, rfl, .inl (Jv.sqL_at hA)⟩ .nil ((colP L ns).map fun line => .list (line.map .int)) (by rw [List.length_map]; unfold colP; rw [List.length_map]; omega) (by omega) (fun i v e D1 H6 hi hv he s6 hN1 hD1 PP hP => ?_) (fun D1 ys H6 s6 hD1 eD1 dv1 _ => ?_)
      · obtain ⟨dl, c1, c2⟩ := alA.at hv
        rw [List.getElem?_map] at c1
        obtain ⟨line, c3, rfl⟩ := Option.map_eq_some_iff.mp c1
        have hlq := hw.hq line (List.mem_of_getElem? c3)
        have ee : e = .list ((ns.map fun w => (line[w.toNat]?).getD 0).map .int) := by
          unfold colP at he
          rw [List.map_map, List.getElem?_map, c3] at he
          exact (Option.some.inj he).symm
        subst ee
        obtain ⟨us, skU, alU⟩ := (c2.same s6).sk rfl
        obtain rfl := Jv.dv_intsV alU
        walk_at "r"
        refine Jv.lcL2 (K := K) (N := [D1]) (j := 7) (i := 4) rfl (Jv.sqL_at (s6 _ _ er)) hN1 ((ns.map fun w => (line[w.toNat]?).getD 0).map .int) (by rw [List.length_map, List.length_map, List.length_map]) (by rw [List.length_map]; omega) (fun i2 u e2' D2 H7 hi2 hu he2 s7 hN2 hD2 PP2 hP2 => ?_) (fun D2 ys2 H7 s7 hD2 eD2 dv2 _ => ?_)
        · obtain ⟨y, hy2, rfl⟩ := Jv.map_at hu
          have hyb := ordq.1 y (List.mem_of_getElem? hy2)
          have hyL : y.toNat < line.length := by omega
          have ee2 : e2' = .int line[y.toNat] := by
            rw [List.map_map, List.getElem?_map, hy2] at he2
            have := (Option.some.inj he2).symm
            rw [this]
            show PyData.int ((line[y.toNat]?).getD 0) = _
            rw [List.getElem?_eq_getElem hyL]; rfl
          subst ee2
          walk_at "r"
          refine (skU.same s7).ix (v := .int line[y.toNat]) (Jv.at_i (by omega) (by rw [List.getElem?_map, List.getElem?_eq_getElem hyL]; rfl)) ?_
          exact hP2 _ _ (Same.refl _) (.int _)
        · exact hP _ _ s7 (.lst (Jv.hide_at (by
            intro m
            obtain ⟨o, ho⟩ := hN1 D2 m
            rw [hD2] at ho; cases ho) eD2) dv2)
      · walk_at "r"
        rw [Jv.hide_nil] at dv1
        exact ⟨D1, rfl, s6, by unfold turnW; rw [if_neg e0]; exact .lst eD1 dv1⟩
  rintro σ H5 ⟨D, rfl, s45, dvU⟩
  have ha5 := ha4.same s45
  have er5 := s45 _ _ er
  have hA5 := s45 _ _ hA
  have kp05 := kp04.trans (Jv.Kp.same s45)
  have hh5 := hh4.same s45
  have alA5 := alA.same s45
  have done : ∀ G, Same H5 G → Q (.bl true) G := fun G s => k G (kp05.trans (Jv.Kp.same s)) (hh5.same s)
  clear ha4 er hA s45 kp04 hh4 alA hx4
  walk_at "r"
  refine Jv.r_tupOfL (Jv.sqL_at er5) fun t1 h1 => ?_
  generalize e1 : upd H5 t1 (.tup (ns.map V.int)) = G1
  obtain ⟨s1, f1⟩ := Jv.new_of h1 e1
  clear e1
  have right : ∀ (R : Addr) (H6 : Hp), Same H5 H6 → ∀ (Q' : VK), (∀ r2 H7, Same H6 H7 → Jv.Dv K H7 r2 (linW (turnW side L ns)) → Q' r2 H7) → Jv.Dv K H6 (.ref R) (.tuple (ns.map .int)) → ∀ E' : XK, sp_Lrenumbered K T.C_Weights [.ref a, .int side, .ref R] H6 Q' E' := fun R H6 s6 Q' hQ dR E' => by
    refine ⟨a, .int side, .ref R, L, p, q, .int side, .tuple (ns.map .int), rfl, ha5.same s6, hw, .int _, dR, few_ints rfl (by omega), ?_⟩
    rcases hm with ⟨rfl, rfl⟩ | ⟨rfl, rfl⟩
    · exact .inl ⟨ns, rfl, rfl, ord, fun r H' s d => hQ r H' s (by unfold turnW; rw [if_pos rfl]; exact d)⟩
    · exact .inr (.inl ⟨ns, rfl, rfl, ord, fun r H' s d => hQ r H' s (by unfold turnW; rw [if_neg (by decide)]; exact d)⟩)
  walk_at "r"
  refine right t1 G1 s1 _ (fun r2 H7 s7 d7 => ?_) (.tup (Jv.sqT_at f1) (Jv.dv_ints ns)) _
  walk_at "r"
  have s17 := s1.trans s7
  refine ⟨_, linLw (turnW side L ns), turnW side L ns, rfl, dvU.same s17, lineR_LL, wU.few lineR_LL, fun r3 H8 s8 d8 => ?_⟩
  walk_at "r"
  refine Jv.ne_self (d7.same s8) d8 (shaped_linW _) ?_
  have s18 := s17.trans s8
  have er8 := s18 _ _ er5
  have nr8 := er8
  clear d7 d8 s7 s8 s17 s1 f1 h1 right dvU wU
  walk_at "r"
  refine Jv.r_slL er8 fun t1 G1 h1 s1 f1 => ?_
  rw [Jv.cut_take (by decide), ← List.map_take] at f1
  walk_at "r"
  refine Jv.r_cat (s1 _ _ er8) f1 (by rw [List.length_map, List.length_map, List.length_take]; omega) fun t2 G2 h2 s2 f2 => ?_
  rw [← List.map_append] at f2
  have u2 := s1.trans s2
  walk_at "r"
  refine Jv.r_slL (u2 _ _ er8) fun t3 G3 h3 s3 f3 => ?_
  rw [Jv.cut_drop (by decide) (by rw [List.length_map]; show 1 ≤ ns.length; omega), show (1 : Int).toNat = 1 from rfl, ← List.map_drop] at f3
  have u3 := u2.trans s3
  walk_at "r"
  refine Jv.r_slL (u3 _ _ er8) fun t4 G4 h4 s4 f4 => ?_
  rw [Jv.cut_drop (by decide) (by rw [List.length_map]; show 1 ≤ ns.length; omega), show (1 : Int).toNat = 1 from rfl, ← List.map_drop] at f4
  have u4 := u3.trans s4
  have er9 := u4 _ _ er8
  walk_at "r"
  intro t5 h5
  generalize e5 : upd G4 t5 _ = G5
  obtain ⟨s5, f5⟩ := Jv.new_of h5 e5
  clear e5
  refine Jv.r_cat (s5 _ _ f4) f5 (by rw [List.length_map, List.length_drop]; show _ + 1 ≤ 1000; omega) fun t6 G6 h6 s6 f6 => ?_
  have u6 := (u4.trans s5).trans s6
  walk_at "r"
  refine Jv.r_slL (u6 _ _ er8) fun t7 G7 h7 s7 f7 => ?_
  rw [Jv.cut_drop (by decide) (by rw [List.length_map]; show 1 ≤ ns.length; omega), show (1 : Int).toNat = 1 from rfl, ← List.map_drop] at f7
  have u7 := u6.trans s7
  walk_at "r"
  intro t8 h8
  generalize e8 : upd G7 t8 _ = G8
  obtain ⟨s8, f8⟩ := Jv.new_of h8 e8
  clear e8
  refine Jv.r_cat (s8 _ _ f7) f8 (by rw [List.length_map, List.length_drop]; show _ + 1 ≤ 1000; omega) fun t9 G9 h9 s9 f9 => ?_
  have u9 := (u7.trans s8).trans s9
  walk_at "r"
  intro t10 h10
  generalize e10 : upd G9 t10 _ = G10
  obtain ⟨s10, f10⟩ := Jv.new_of h10 e10
  clear e10
  have u10 := u9.trans s10
  walk_at "r"
  refine Jv.r_slL (u10 _ _ er8) fun t11 G11 h11 s11 f11 => ?_
  rw [Jv.cut_drop (by decide) (by rw [List.length_map]; show 1 ≤ ns.length; omega), show (1 : Int).toNat = 1 from rfl, ← List.map_drop] at f11
  refine Jv.r_cat (s11 _ _ f10) f11 (by rw [List.length_map, List.length_drop]; show 1 + _ ≤ 1000; omega) fun t12 G12 h12 s12 f12 => ?_
  have u12 := (u10.trans s11).trans s12
  walk_at "r"
  intro t13 h13
  generalize e13 : upd G12 t13 _ = G13
  obtain ⟨s13, f13⟩ := Jv.new_of h13 e13
  clear e13
  have al13 : Jv.DvAll K G13 [.ref t2, .ref t3, .ref t6, .non, .ref t9, .ref t12] [.list ((ns ++ ns.take 1).map .int), .list ((ns.drop 1).map .int), .list ((ns.drop 1 ++ [((ns.map V.int).length : Int)]).map .int), .none, .list ((ns.drop 1).map .int ++ [.bool true]), .list (([-1] ++ ns.drop 1).map .int)] :=
    .cons (.lst (s13 _ _ (s12 _ _ (s11 _ _ (s10 _ _ (s9 _ _ (s8 _ _ (s7 _ _ (s6 _ _ (s5 _ _ (s4 _ _ (s3 _ _ f2))))))))))) (Jv.dv_ints _))
    (.cons (.lst (s13 _ _ (s12 _ _ (s11 _ _ (s10 _ _ (s9 _ _ (s8 _ _ (s7 _ _ (s6 _ _ (s5 _ _ (s4 _ _ f3)))))))))) (Jv.dv_ints _))
    (.cons (.lst (s13 _ _ (s12 _ _ (s11 _ _ (s10 _ _ (s9 _ _ (s8 _ _ (s7 _ _ f6))))))) (by rw [List.map_append]; exact Jv.DvAll.app (Jv.dv_ints _) (.cons (.int _) .nil)))
    (.cons .non
    (.cons (.lst (s13 _ _ (s12 _ _ (s11 _ _ (s10 _ _ f9)))) (Jv.DvAll.app (Jv.dv_ints _) (.cons (.bl _) .nil)))
    (.cons (.lst (s13 _ _ f12) (by rw [List.map_append]; exact Jv.DvAll.app (.cons (.int _) .nil) (Jv.dv_ints _))) .nil)))))
  have u13 := u12.trans s13
  have bads : ∀ d ∈ [PyData.list ((ns ++ ns.take 1).map .int), .list ((ns.drop 1).map .int), .list ((ns.drop 1 ++ [((ns.map V.int).length : Int)]).map .int), .none, .list ((ns.drop 1).map .int ++ [.bool true]), .list (([-1] ++ ns.drop 1).map .int)], orderD (m : Nat) d = false ∧ few60 d := fun d hd => by
    simp only [List.mem_cons, List.not_mem_nil, or_false] at hd
    rcases hd with rfl | rfl | rfl | rfl | rfl | rfl
    · refine ⟨no_order rfl fun o => ?_, few_ints rfl (by rw [List.length_append, List.length_take]; omega)⟩
      have := order_len o
      rw [List.length_append, List.length_take] at this; omega
    · refine ⟨no_order rfl fun o => ?_, few_ints rfl (by rw [List.length_drop]; omega)⟩
      have := order_len o
      rw [List.length_drop] at this; omega
    · refine ⟨no_order rfl ?_, few_ints rfl (by rw [List.length_append, List.length_drop]; simp; omega)⟩
      rw [List.length_map, lns]; exact no_top
    · exact ⟨rfl, fun ds e => by cases e⟩
    · refine ⟨no_bool rfl, fun ds e => ?_⟩
      cases e
      rw [List.length_append, List.length_map, List.length_drop]; simp; omega
    · exact ⟨no_order rfl no_neg, few_ints rfl (by rw [List.length_append, List.length_drop]; simp; omega)⟩
  have s013 := s18.trans u13
  have er13 := u13 _ _ er8
  clear s13 s12 s11 s10 s9 s8 s7 s6 s5 s4 s3 s2 s1 f2 f3 f4 f5 f6 f7 f8 f9 f10 f11 f12 f1 u2 u3 u4 u6 u7 u9 u10 u12 u13 h13 h12 h11 h10 h9 h8 h7 h6 h5 h4 h3 h2 h1 er9
  have wrong : ∀ (v : V) (d : PyData) (Hx : Hp), Same H5 Hx → Jv.Dv K Hx v d → orderD (m : Nat) d = false → few60 d → ∀ (Q' : VK) (E' : XK), (∀ r2 H7, Same Hx H7 → Jv.Dv K H7 r2 (.tuple [.str "lot", .int side]) → Q' r2 H7) → sp_Lrenumbered K T.C_Weights [.ref a, .int side, v] Hx Q' E' := fun v d Hx sx dv ho hf Q' E' hQ => by
    refine ⟨a, .int side, v, L, p, q, .int side, d, rfl, ha5.same sx, hw, .int _, dv, hf, .inr (.inr (.inr ⟨side, ?_, rfl, hQ⟩))⟩
    rcases hm with ⟨rfl, rfl⟩ | ⟨rfl, rfl⟩
    · exact .inl ⟨rfl, ho⟩
    · exact .inr ⟨rfl, ho⟩
  walk_at "r"
  refine ⟨t13, rfl, ⟨_, Jv.sqL_at f13⟩, ?_⟩
  refine for_list (xs := [.ref t2, .ref t3, .ref t6, .non, .ref t9, .ref t12]) (fun i σ H1 => ∃ y6, σ = [some (.ref h), some (.ref a), some (.ref A), some (.int side), some (.ref r), some (.ref D), y6, none, none] ∧ Same G13 H1) ⟨_, rfl, Same.refl _⟩ (fun i σ H1 _ ⟨_, _, s⟩ => Jv.sqL_at (s _ _ f13)) ?_ ?_
  · rintro i v σ H1 hv ⟨y6, rfl, s1⟩
    obtain ⟨d, hd, dv⟩ := al13.at hv
    obtain ⟨ho, hf⟩ := bads d (List.mem_of_getElem? hd)
    walk_at "r"
    refine wrong v d H1 (s013.trans s1) (dv.same s1) ho hf _ _ fun r2 H2 s2 d2 => ?_
    walk_at "r"
    intro t ht
    have n1 := Jv.same_new (u := .tup [.str "lot", .int side]) ht
    refine Jv.ne_self (d2.same n1) (.tup (Jv.sqT_at upd_same) (.cons (.str _) (.cons (.int _) .nil))) (shaped_lot _) ?_
    walk_at "r"
    exact ⟨_, rfl, s1.trans (s2.trans n1)⟩
  clear al13 bads
  rintro σ H6 ⟨y6, rfl, s6⟩
  have s56 := s013.trans s6
  have er6 := s6 _ _ er13
  walk_at "r"
  refine ⟨fun σ H' => ∃ y6, σ = [some (.ref h), some (.ref a), some (.ref A), some (.int side), some (.ref r), some (.ref D), y6, none, none] ∧ Same H6 H', ?_, ?_⟩
  · walk_at "r"
    rw [List.length_map]
    refine Jv.r_dec (fun c => ?_) (fun c => ?_)
    case refine_2 =>
      walk_at "r"
      exact ⟨_, rfl, Same.refl _⟩
    obtain ⟨o0, eo0⟩ : ∃ o0, ns[0]? = some o0 := ⟨_, List.getElem?_eq_getElem (by omega)⟩
    walk_at "r"
    refine Jv.r_ixL (Jv.sqL_at er6) (Jv.at_i (v := .int o0) (by decide) (by rw [List.getElem?_map]; show ns[0]?.map _ = _; rw [eo0]; rfl)) ?_
    walk_at "r"
    intro t1 ht1
    generalize et1 : upd H6 t1 _ = G1
    obtain ⟨st1, ft1⟩ := Jv.new_of ht1 et1
    clear et1
    have er7 := st1 _ _ er6
    walk_at "r"
    rw [List.length_map]
    refine ⟨t1, (ns.length : Nat), _, rfl, rfl, ft1, by omega, by omega, Nat.le_trans (show 1 * _ ≤ 6 by omega) (by decide), fun t2 h2 => ?_⟩
    rw [Int.toNat_natCast, Jv.flat_one']
    generalize et2 : upd G1 t2 _ = G2
    obtain ⟨st2, ft2⟩ := Jv.new_of h2 et2
    clear et2
    have s02 := st1.trans st2
    walk_at "r"
    refine wrong (.ref t2) (.list ((List.replicate ns.length o0).map .int)) G2 (s56.trans s02) (.lst (by rw [ft2, ← List.map_replicate]) (Jv.dv_ints (List.replicate ns.length o0))) (no_order rfl (by rw [lns]; exact no_rep (by omega))) (few_ints rfl (by rw [List.length_replicate]; omega)) _ _ fun r2 H7 s7 d7 => ?_
    walk_at "r"
    intro t ht
    have n1 := Jv.same_new (u := .tup [.str "lot", .int side]) ht
    refine Jv.ne_self (d7.same n1) (.tup (Jv.sqT_at upd_same) (.cons (.str _) (.cons (.int _) .nil))) (shaped_lot _) ?_
    walk_at "r"
    exact ⟨_, rfl, s02.trans (s7.trans n1)⟩
  rintro σ H7 ⟨y6', rfl, s67⟩
  have s57 := s56.trans s67
  have er7 := s67 _ _ er6
  walk_at "r"
  refine ⟨a, .int 2, .ref r, L, p, q, .int 2, .list (ns.map .int), rfl, ha5.same s57, hw, .int _, .lst er7 (Jv.dv_ints ns), few_ints rfl (by omega), .inr (.inr (.inl ⟨by decide, fun r2 H8 s8 d8 => ?_⟩))⟩
  walk_at "r"
  intro t ht
  have n1 := Jv.same_new (u := .tup [.str "side", .non]) ht
  refine Jv.eq_self (d8.same n1) (.tup (Jv.sqT_at upd_same) (.cons (.str _) (.cons .non .nil))) shaped_side ?_
  have s59 := s57.trans (s8.trans n1)
  generalize upd H8 t _ = G at s59 ⊢
  obtain ⟨dx, wv, tv, hca, hW, _⟩ := ha5.same s59
  walk_at "r"
  refine Jv.r_fld ?_
  walk_at "r"
  refine ⟨a, _, dx, _, _, rfl, hca, O.o_Weights, O.n_Weights_lines, rfl, ?_⟩
  walk_at "r"
  refine ⟨_, linLw L, L, rfl, .lst (s59 _ _ hA5) (alA5.same s59), lineR_LL, hw.few lineR_LL, fun r3 H9 s9 d9 => ?_⟩
  walk_at "r"
  refine Jv.eq_self (hW.same s9) d9 (shaped_linW _) ?_
  exact done _ (s59.trans s9)
end
end K50

namespace K50
open PySem PySem.Spec PyProof.Rows L2
/-! ### weights unlike the costs -/
theorem dvW_hide {K : PySem.W.Frag} {H : Hp} {N : List Addr} {v : V} {L : List (List Int)} (hN : ∀ b ∈ N, ∃ ys, H b = some (.lst ys)) (h : Jv.Dv K H v (linW L)) : Jv.Dv K (Jv.hide N H) v (linW L) := by
  obtain ⟨A, xs, rfl, hA, al⟩ := Jv.tup_of h
  refine .tup (Jv.sqT_hide hN hA) (al.imp fun v d hd dv => ?_)
  obtain ⟨line, _, rfl⟩ := List.mem_map.mp hd
  obtain ⟨B, ys, rfl, hB, aB⟩ := Jv.tup_of dv
  obtain rfl := Jv.dv_intsV aB
  exact .tup (Jv.sqT_hide hN hB) (Jv.dv_ints line)
theorem dvI_hide {K : PySem.W.Frag} {H : Hp} {N : List Addr} {v : V} {ns : List Int} (hN : ∀ b ∈ N, ∃ ys, H b = some (.lst ys)) (h : Jv.Dv K H v (.tuple (ns.map .int))) : Jv.Dv K (Jv.hide N H) v (.tuple (ns.map .int)) := by
  obtain ⟨A, xs, rfl, hA, al⟩ := Jv.tup_of h
  obtain rfl := Jv.dv_intsV al
  exact .tup (Jv.sqT_hide hN hA) (Jv.dv_ints ns)
theorem ins_hide {H : Hp} {N : List Addr} {a C dx : Addr} {fs : List (Str × V)} (hN : ∀ b ∈ N, ∃ ys, H b = some (.lst ys)) (h : H a = some (.ins C dx fs)) : Jv.hide N H a = some (.ins C dx fs) :=
  Jv.hide_at (fun m => by obtain ⟨ys, e⟩ := hN a m; rw [h] at e; cases e) h
theorem WAt.hid {K : PySem.W.Frag} {H : Hp} {N : List Addr} {C a : Addr} {L : List (List Int)} {p q : Int} (hN : ∀ b ∈ N, ∃ ys, H b = some (.lst ys)) (h : WAt K H C a L p q) : WAt K (Jv.hide N H) C a L p q := by
  obtain ⟨dx, w, s, h1, h2, h3⟩ := h
  exact ⟨dx, w, s, ins_hide hN h1, dvW_hide hN h2, dvI_hide (ns := [p, q]) hN h3⟩
theorem dvT_hide {K : PySem.W.Frag} {H : Hp} {N : List Addr} {v : V} {L : List (List (List Int))} (hN : ∀ b ∈ N, ∃ ys, H b = some (.lst ys)) (h : Jv.Dv K H v (linT L)) : Jv.Dv K (Jv.hide N H) v (linT L) := by
  obtain ⟨A, xs, rfl, hA, al⟩ := Jv.tup_of h
  refine .tup (Jv.sqT_hide hN hA) (al.imp fun v d hd dv => ?_)
  obtain ⟨line, _, rfl⟩ := List.mem_map.mp hd
  obtain ⟨B, ys, rfl, hB, aB⟩ := Jv.tup_of dv
  refine .tup (Jv.sqT_hide hN hB) (aB.imp fun v d hd dv => ?_)
  obtain ⟨ns, _, rfl⟩ := List.mem_map.mp hd
  exact dvI_hide hN dv
theorem CAt.hid {K : PySem.W.Frag} {H : Hp} {N : List Addr} {C a : Addr} {l : Int} {L : List (List (List Int))} {p q : Int} (hN : ∀ b ∈ N, ∃ ys, H b = some (.lst ys)) (h : CAt K H C a l (linT L) p q) : CAt K (Jv.hide N H) C a l (linT L) p q := by
  obtain ⟨dx, w, s, h1, h2, h3⟩ := h
  exact ⟨dx, w, s, ins_hide hN h1, dvT_hide hN h2, dvI_hide (ns := [p, q]) hN h3⟩
theorem CAt.same {K : PySem.W.Frag} {H H' : Hp} {C a : Addr} {l : Int} {W : PyData} {p q : Int} (h : CAt K H C a l W p q) (s : Same H H') : CAt K H' C a l W p q := by
  obtain ⟨dx, w, t, h1, h2, h4⟩ := h
  exact ⟨dx, w, t, s _ _ h1, h2.same s, h4.same s⟩
def sp_Lunlike (K : PySem.W.Frag) (CC : Addr) : Sp := fun vs H Q _ => ∃ h hl a s l C, ∃ p q : Nat, vs = [.ref h, .ref a, .ref s] ∧ Jv.Hand H h hl ∧ CAt K (Jv.hide [h] H) CC a l (linT C) p q ∧ Gc l C p q ∧ H s = some (.tup [.int p, .int q]) ∧ ∀ H', Q (.bl true) H'
section
variable {P : Program} {w : World} {K : PySem.W.Frag} {mg : Str → Option Value} {base : Heap}
theorem ok_Lunlike (T : Tx) (O : Ok K mg T) : FnOk P w K mg base CX0 6 T.f_Lunlike T.d_Lunlike ["_law_hand_here", "_law_costs_here", "_law_sides"] (sp_Lunlike K T.C_Costs) := by
  refine O.F_Lunlike.ok sc_Lunlike (fun vs H Q E h => by obtain ⟨_, _, _, _, _, _, _, _, rfl, _⟩ := h; rfl) (fun cdv A outer s0 H vs Q E hr h => ?_)
  obtain ⟨h, hl, a, s, l, C, p, q, rfl, hh, ha, hw, es, k⟩ := h
  refine ⟨_, (pss_cons (ps_set (i := 3) sc_Lunlike.nd rfl (Or.inl rfl) (pe_call (ok_Lshape T O) (hr.mono (by decide)) (by rfl) O.m_Lshape O.F_Lshape.kp O.b_Lshape .nil pass0 (pa_cons (pv 0) pa_nil)))
  (pss_cons (ps_set (i := 4) sc_Lunlike.nd rfl (Or.inl rfl) (pe_make (E := E0) O.k_Weights (ok_Weightsu_initu T O) (hr.mono (by decide)) (by rfl) O.m_Weights O.b_Weightsu_initu .nil passL (pa_cons (pe_call (ok_Ldrawn T O) (hr.mono (by decide)) (by rfl) O.m_Ldrawn O.F_Ldrawn.kp O.b_Ldrawn .nil pass0 (pa_cons (pv 0) (pa_cons (pv 3) pa_nil))) pa_nil)))
  (pss_cons (ps_for PassesOwn.never rfl (pi_range1 (by rfl) O.z_range (pa_cons pe_int pa_nil)) (pg_name (i := 5) sc_Lunlike.nd rfl (Or.inl rfl)) (pss_one (ps_try_as (i := 6) rfl rfl sc_Lunlike.nd rfl rfl ⟨rfl, by decide, .inl O.m_NotAlike⟩ takes0 (fun W pn xe tk _ => (pss_cons (ps_if (pt_cmpR op_eq (pv 5) pe_int (nomark _)) (pss_one (ps_expr (pe_callS (ok_floor_of T O) (hr.mono (by decide)) (by rfl) O.m_floor_of O.F_floor_of.kp O.b_floor_of (fun σ => passAt tk σ) (pa_cons (pv 1) (pa_cons (pv 4) pa_nil))))) (pss_one (ps_expr (pe_callS (ok_cheapest_goals T O) (hr.mono (by decide)) (by rfl) O.m_cheapest_goals O.F_cheapest_goals.kp O.b_cheapest_goals (fun σ => passAt tk σ) (pa_cons (pv 1) (pa_cons (pv 4) pa_nil))))))
  (pss_one (ps_if (pt_cmpR (r := rNeD K) (op_neD hr.units) (pv 3) (pv 2) (nomark _)) (pss_one (ps_ret pe_bl)) pss_nil)))) (fun a oe cls d pn hz hf => (pss_one (ps_if (PW.pt (pw_or (pt_cmpR (r := rEqD K) (op_eqD hr.units) (pv 3) (pv 2) (nomark _)) (pw_or1 (pt_cmpR op_ne (pe_xf O.x_NotAlike.f O.n_NotAlike_what hz hf (pv 6)) pe_str (nomark _))))) (pss_one (ps_ret pe_bl)) pss_nil))))))
  (pss_one (ps_ret pe_bl))))), ?_⟩
  walk_at "r"
  refine ⟨h, hl, rfl, hh, fun t p2 q2 H1 hp2 hq2 hpq2 et kp1 hh1 => ?_⟩
  have ha1 := ha.same kp1.hide
  have es1 := kp1 _ _ (hh.neT es) es
  walk_at "r"
  refine Jv.gen_make fun Q1 hQ1 => Jv.r_make0 ?_
  walk_at "r"
  refine ⟨h, hl, t, p2, q2, rfl, hh1, et, hp2, hq2, hpq2, fun r M H2 wM kp2 hh2 dM => ?_⟩
  have ha2 := (ha1.same kp2.hide).same Jv.hide_le
  have es2 := kp2 _ _ (hh1.neT es1) es1
  have et2 := kp2 _ _ (hh1.neT et) et
  walk_at "r"
  refine mkW' (dM.same Jv.hide_le) (wM.good lineR_LL) fun b H3 s3 _ gb => hQ1 _ _ ?_
  have ha3 := ha2.same s3
  have dS : Jv.Dv K H3 (.ref s) (.tuple [.int p, .int q]) := .tup (Jv.sqT_at (s3 _ _ es2)) (.cons (.int _) (.cons (.int _) .nil))
  have dO : Jv.Dv K H3 (.ref t) (.tuple [.int p2, .int q2]) := .tup (Jv.sqT_at (s3 _ _ et2)) (.cons (.int _) (.cons (.int _) .nil))
  clear ha ha1 ha2 es es1 es2 et et2 hh hh1 hh2 dM kp1 kp2 s3 hQ1 Q1
  walk_at "r"
  refine ⟨2, rfl, by decide, by decide, ?_⟩
  refine ⟨fun i m σ H' => m = 2 - i ∧ i ≤ 2 ∧ ∃ y5 y6, σ = [some (.ref h), some (.ref a), some (.ref s), some (.ref t), some (.ref b), y5, y6] ∧ Same H3 H', ⟨2, rfl, Nat.zero_le _, _, _, rfl, Same.refl _⟩, ?_⟩
  rintro i m σ H1 ⟨rfl, hi, y5, y6, rfl, s1⟩
  by_cases hlt : i < 2
  case neg =>
    have e : i = 2 := by omega
    subst e
    refine .inl ⟨Nat.le_refl _, ?_⟩
    walk_at "r"
    exact k _
  refine .inr ⟨hlt, fun σ H' => ∃ y5 y6, σ = [some (.ref h), some (.ref a), some (.ref s), some (.ref t), some (.ref b), y5, y6] ∧ Same H3 H', fun σ' H' p' => ⟨2 - (i + 1), by omega, rfl, hlt, p'⟩, fun x H' y => ?_⟩
  obtain ⟨e, y⟩ := y
  subst e y
  walk_at "r"
  refine Jv.r_decI (fun e0 => ?_) (fun e0 => ?_)
  · walk_at "r"
    refine ⟨a, b, l, C, M, p, q, p2, q2, rfl, ha3.same s1, hw, gb.same s1, wM, fun n e H2 s2 hd => ?_, fun y H2 s2 => ?_⟩
    · refine ⟨true, O.x_NotAlike.e, fun _ a ha => ?_, fun z => nomatch z⟩
      walk_at "r"
      refine ⟨_, _, (dO.same (s1.trans s2)).dp, (dS.same (s1.trans s2)).dp, shaped_ii _ _, shaped_ii _ _, ?_⟩
      rw [Jv.eqv_i2, decide_eq_false (fun z => n ⟨by exact_mod_cast z.1, by exact_mod_cast z.2⟩)]
      walk_at "r"
      refine ⟨_, rfl, rfl, rfl, e, _, _, rfl, hd, rfl, ?_⟩
      walk_at "r"
      exact ⟨_, _, rfl, s1.trans s2⟩
    · walk_at "r"
      obtain ⟨rfl, rfl⟩ := y
      refine Jv.ne_self (dO.same (s1.trans s2)) (dS.same (s1.trans s2)) (shaped_ii _ _) ?_
      walk_at "r"
      exact ⟨_, _, rfl, s1.trans s2⟩
  · walk_at "r"
    refine ⟨a, b, l, C, M, p, q, p2, q2, rfl, ha3.same s1, hw, gb.same s1, wM, fun n e H2 s2 hd => ?_, fun y r H2 s2 _ => ?_⟩
    · refine ⟨true, O.x_NotAlike.e, fun _ a ha => ?_, fun z => nomatch z⟩
      walk_at "r"
      refine ⟨_, _, (dO.same (s1.trans s2)).dp, (dS.same (s1.trans s2)).dp, shaped_ii _ _, shaped_ii _ _, ?_⟩
      rw [Jv.eqv_i2, decide_eq_false (fun z => n ⟨by exact_mod_cast z.1, by exact_mod_cast z.2⟩)]
      walk_at "r"
      refine ⟨_, rfl, rfl, rfl, e, _, _, rfl, hd, rfl, ?_⟩
      walk_at "r"
      exact ⟨_, _, rfl, s1.trans s2⟩
    · walk_at "r"
      obtain ⟨rfl, rfl⟩ := y
      refine Jv.ne_self (dO.same (s1.trans s2)) (dS.same (s1.trans s2)) (shaped_ii _ _) ?_
      walk_at "r"
      exact ⟨_, _, rfl, s1.trans s2⟩
end
end K50

namespace K50
open PySem PySem.Spec PyProof.Rows L2
/-! ### floors and goals, as the law makes them -/
def floorLine (line : List (List Int)) (row : List Int) : Int := (List.zipWith (fun ns x => x * minI ns) line row).sum
def floorN (C : List (List (List Int))) (W : List (List Int)) : Int := (List.zipWith floorLine C W).sum
def Great (g : Int) (P : List (List Int)) : Prop := 0 ≤ g ∧ (∀ ns ∈ P, minI ns ≤ g) ∧ (g = 0 ∨ ∃ ns ∈ P, minI ns = g)
theorem Great.nil : Great 0 [] := ⟨Int.le_refl _, fun _ m => (nomatch m), .inl rfl⟩
theorem Great.snoc {g : Int} {P : List (List Int)} (h : Great g P) (ns : List Int) : Great (if minI ns > g then minI ns else g) (P ++ [ns]) := by
  obtain ⟨h0, h1, h2⟩ := h
  split
  · rename_i c
    refine ⟨by omega, fun n hn => ?_, .inr ⟨ns, List.mem_append_right _ (List.mem_singleton.mpr rfl), rfl⟩⟩
    rcases List.mem_append.mp hn with hn | hn
    · have := h1 n hn; omega
    · rw [List.mem_singleton.mp hn]; exact Int.le_refl _
  · rename_i c
    refine ⟨h0, fun n hn => ?_, ?_⟩
    · rcases List.mem_append.mp hn with hn | hn
      · exact h1 n hn
      · rw [List.mem_singleton.mp hn]; omega
    · rcases h2 with h2 | ⟨n, hn, e⟩
      · exact .inl h2
      · exact .inr ⟨n, List.mem_append_left _ hn, e⟩
theorem sum_snoc {xs : List Int} {x : Int} : (xs ++ [x]).sum = xs.sum + x := by rw [List.sum_append]; simp
theorem prs_eq (p q : Nat) : Jv.prs p q = (List.range p).flatMap fun (i : Nat) => (List.range q).map fun (j : Nat) => ((i : Int), (j : Int)) := by
  unfold Jv.prs Jv.pairsTo; simp
theorem sum_flat {α β : Type} {f : β → Int} {g : α → List β} : ∀ xs : List α, ((xs.flatMap g).map f).sum = (xs.map fun a => ((g a).map f).sum).sum
  | [] => rfl
  | a :: r => by rw [List.flatMap_cons, List.map_append, List.sum_append, List.map_cons, List.sum_cons, sum_flat r]
theorem range_zip {α β : Type} {f : α → β → Int} {xs : List α} {ys : List β} {n : Nat} {g : Nat → Int} (h1 : xs.length = n) (h2 : ys.length = n) (h : ∀ i x y, xs[i]? = some x → ys[i]? = some y → g i = f x y) : (List.range n).map g = List.zipWith f xs ys := by
  refine List.ext_getElem? fun i => ?_
  rw [List.getElem?_map, List.getElem?_zipWith]
  by_cases hi : i < n
  · rw [List.getElem?_range hi, List.getElem?_eq_getElem (l := xs) (by omega), List.getElem?_eq_getElem (l := ys) (by omega)]
    show some (g i) = some _
    rw [h i _ _ (List.getElem?_eq_getElem (by omega)) (List.getElem?_eq_getElem (by omega))]
  · rw [List.getElem?_eq_none (l := List.range n) (by simp; omega), List.getElem?_eq_none (l := xs) (by omega)]; rfl
theorem floor_eq {l : Int} {C : List (List (List Int))} {W : List (List Int)} {p q : Nat} (g : Gc l C p q) (w : Gw W p q) : floorV C W p q = floorN C W := by
  unfold floorV floorN
  rw [prs_eq, sum_flat]
  congr 1
  refine range_zip g.hp w.hp fun i line row h1 h2 => ?_
  rw [List.map_map]
  unfold floorLine
  congr 1
  refine range_zip (g.hq line (List.mem_of_getElem? h1)) (w.hq row (List.mem_of_getElem? h2)) fun j ns x h3 h4 => ?_
  show ((W.getD ((i : Nat) : Int).toNat []).getD ((j : Nat) : Int).toNat 0) * minI ((C.getD ((i : Nat) : Int).toNat []).getD ((j : Nat) : Int).toNat []) = x * minI ns
  rw [Int.toNat_natCast, Int.toNat_natCast, getD_at h2, getD_at h4, getD_at h1, getD_at h3]
theorem cheap_law {l : Int} {C : List (List (List Int))} {p q : Nat} (g : Gc l C p q) {line : List (List Int)} {ns : List Int} (h : line ∈ C) (h2 : ns ∈ line) (x : Int) : endsUp ns (if x > 0 then minI ns else 1000000) = cheapE ns x := by
  unfold cheapE
  split
  · rfl
  · exact endsUp_all (fun n hn => (g.ent line h ns h2 n hn).2) fun n hn => (maxI_spec (g.ne h h2)).2 n hn
theorem linesR_T {L : List (List (List Int))} : LinesR (linT L) L := ⟨_, rfl, pair_map fun line _ => ⟨_, rfl, pair_map fun ns _ => rfl⟩⟩
theorem Gc.few {l : Int} {L : List (List (List Int))} {p q : Nat} {dw : PyData} (w : Gc l L p q) (h : LinesR dw L) : Jv.few3 dw :=
  few_lines h (by rw [w.hp]; have := w.p6; omega) (fun line h => by rw [w.hq line h]; have := w.q6; omega) fun line h ns h2 => by have := w.len line h ns h2; have := w.l6; omega
theorem mkC {K : PySem.W.Frag} {H1 : Hp} {C CB : Addr} {Q : VK} {E : XK} {xl xw : V} {dw : PyData} {l : Int} {L : List (List (List Int))} {p q : Nat} (hl : Jv.Dv K H1 xl (.int l)) (hw : Jv.Dv K H1 xw dw) (hr : LinesR dw L) (g : Gc l L p q)
    (k : ∀ r H', Same H1 H' → H1 r = none → CAt K H' C r l (linT L) p q → Q (.ref r) H') :
    ∀ x dx, H1 x = none → H1 dx = none → dx ≠ x → sp_Costs_init K C CB [.ref x, xl, xw] (upd (upd H1 dx (.own x)) x (.ins C dx [])) (fun v H2 => v = .non ∧ Q (.ref x) H2) E := fun x dx hx hd ne => by
  have s := make_same (o := .own x) (u := .ins C dx []) hx hd ne
  refine ⟨x, dx, xl, .int l, xw, dw, rfl, upd_same, hl.same s, hw.same s, g.few hr, .inr ⟨l, L, p, q, ⟨rfl, hr, g⟩, fun H' old ga => ⟨rfl, k x H' (fun b o hb => ?_) hx ga⟩⟩⟩
  exact old b o (ne_of_none hb hx) (s b o hb)
theorem shaped_told (l : Int) (L : List (List (List Int))) : SeqAt.shaped (.tuple [.int l, wantT L, .tuple [.bool false, .bool false]]) = true := by
  have h1 := can_want L
  have h2 := dep_want L
  refine shaped_of (by simp [PyData.canLay0, PyData.canLayAll0, h1]) ?_
  simp [PyData.depth, PyData.depthAll]; omega
theorem Great.low {l g c : Int} {C : List (List (List Int))} {p q : Nat} (w : Gc l C p q) (h : Great g C.flatten) (hc : c < g) : ∃ line ∈ C, ∃ ns ∈ line, endsUp ns c = [] := by
  obtain ⟨_, _, h2⟩ := h
  rcases h2 with rfl | ⟨ns, hn, e⟩
  · have p0 := w.p0
    have lC := w.hp
    obtain ⟨line, hl⟩ : ∃ line, C[0]? = some line := ⟨_, List.getElem?_eq_getElem (by omega)⟩
    have hlm := List.mem_of_getElem? hl
    have q0 := w.q0
    have lq := w.hq line hlm
    obtain ⟨ns, hn⟩ : ∃ ns, line[0]? = some ns := ⟨_, List.getElem?_eq_getElem (by omega)⟩
    have hnm := List.mem_of_getElem? hn
    refine ⟨line, hlm, ns, hnm, (endsUp_none (w.ne hlm hnm)).mpr ?_⟩
    have := (w.ent line hlm ns hnm _ (minI_spec (w.ne hlm hnm)).1).1
    omega
  · obtain ⟨line, hl, hn⟩ := List.mem_flatten.mp hn
    exact ⟨line, hl, ns, hn, (endsUp_none (w.ne hl hn)).mpr (by omega)⟩
theorem Great.high {l g c : Int} {C : List (List (List Int))} {p q : Nat} (w : Gc l C p q) (h : Great g C.flatten) (hc : g ≤ c) : ∀ line ∈ C, ∀ ns ∈ line, endsUp ns c ≠ [] := fun line hl ns hn e => by
  have := (endsUp_none (w.ne hl hn)).mp e
  have := h.2.1 ns (List.mem_flatten.mpr ⟨line, hl, hn⟩)
  omega
def sp_Lgoals (K : PySem.W.Frag) : Sp := fun vs H Q _ => ∃ h hl s x W, ∃ p q : Nat, vs = [.ref h, .ref s, x] ∧ Jv.Hand H h hl ∧ H s = some (.tup [.int p, .int q]) ∧ Jv.Dv K (Jv.hide [h] H) x (linLw W) ∧ Gw W p q ∧ ∀ H', Q (.bl true) H'
section
variable {P : Program} {w : World} {K : PySem.W.Frag} {mg : Str → Option Value} {base : Heap}
theorem ok_Lgoals (T : Tx) (O : Ok K mg T) : FnOk P w K mg base CX0 8 T.f_Lgoals T.d_Lgoals ["_law_hand_here", "_law_sides", "_law_counts"] (sp_Lgoals K) := by
  refine O.F_Lgoals.ok sc_Lgoals (fun vs H Q E h => by obtain ⟨_, _, _, _, _, _, _, rfl, _⟩ := h; rfl) (fun cdv A0 outer s0 H vs Q E hr h => ?_)
  obtain ⟨h, hl, s, x, W, p, q, rfl, hh, es, hx, gW, k⟩ := h
  refine ⟨_, (pss_cons (ps_set (i := 3) sc_Lgoals.nd rfl (Or.inl rfl) (pe_call (ok_Ldraw T O) (hr.mono (by decide)) (by rfl) O.m_Ldraw O.F_Ldraw.kp O.b_Ldraw .nil pass0 (pa_cons (pv 0) (pa_cons pe_int pa_nil))))
  (pss_cons (ps_set (i := 4) sc_Lgoals.nd rfl (Or.inl rfl) (pe_call (ok_Lcosts T O) (hr.mono (by decide)) (by rfl) O.m_Lcosts O.F_Lcosts.kp O.b_Lcosts .nil pass0 (pa_cons (pv 0) (pa_cons (pv 1) (pa_cons (pv 3) pa_nil)))))
  (pss_cons (ps_set (i := 5) sc_Lgoals.nd rfl (Or.inl rfl) (pe_make (E := E0) O.k_Costs (ok_Costsu_initu T O) (hr.mono (by decide)) (by rfl) O.m_Costs O.b_Costsu_initu .nil passL (pa_cons (pv 3) (pa_cons (pv 4) pa_nil))))
  (pss_cons (ps_set (i := 6) sc_Lgoals.nd rfl (Or.inl rfl) (pe_make (E := E0) O.k_Weights (ok_Weightsu_initu T O) (hr.mono (by decide)) (by rfl) O.m_Weights O.b_Weightsu_initu .nil passL (pa_cons (pv 2) pa_nil)))
  (pss_cons (ps_set (i := 7) sc_Lgoals.nd rfl (Or.inl rfl) (pe_lst pa_nil))
  (pss_cons (ps_set (i := 8) sc_Lgoals.nd rfl (Or.inl rfl) pe_int)
  (C8.pss_cut (ps_set (i := 9) sc_Lgoals.nd rfl (Or.inl rfl) pe_int)
  (C8.pss_cut (ps_for PassesOwn.never rfl (show PI _ _ _ (Jv.iZipX K _) from Jv.pi_zipX (by rfl) O.z_zip (pa_cons (pv 4) (pa_cons (pv 2) pa_nil))) (pg_tup rfl (pgs_cons (pg_name (i := 10) sc_Lgoals.nd rfl (Or.inl rfl)) (pgs_cons (pg_name (i := 11) sc_Lgoals.nd rfl (Or.inl rfl)) pgs_nil))) (pss_cons (ps_set (i := 12) sc_Lgoals.nd rfl (Or.inl rfl) (pe_lst pa_nil))
  (pss_cons (ps_for PassesOwn.never rfl (show PI _ _ _ (Jv.iZipX K _) from Jv.pi_zipX (by rfl) O.z_zip (pa_cons (pv 10) (pa_cons (pv 11) pa_nil))) (pg_tup rfl (pgs_cons (pg_name (i := 13) sc_Lgoals.nd rfl (Or.inl rfl)) (pgs_cons (pg_name (i := 14) sc_Lgoals.nd rfl (Or.inl rfl)) pgs_nil))) (pss_cons (ps_set (i := 8) sc_Lgoals.nd rfl (Or.inl rfl) (pe_op op_add (pv 8) (pe_op op_mul (pv 14) (pe_callB (r := Jv.rMinA K) (Jv.cr_minA rfl) (by rfl) O.z_min (by decide +kernel) (pa_cons (pv 13) pa_nil)))))
  (pss_cons (ps_set (i := 9) sc_Lgoals.nd rfl (Or.inl rfl) (pe_callB (r := Jv.rMax2) (call_max2 rfl) (by rfl) O.z_max (by decide +kernel) (pa_cons (pv 9) (pa_cons (pe_callB (r := Jv.rMinA K) (Jv.cr_minA rfl) (by rfl) O.z_min (by decide +kernel) (pa_cons (pv 13) pa_nil)) pa_nil))))
  (pss_one (ps_expr (show PE _ _ (tBM K _ _ _ _) from pe_bm PySem.F.plainAttrs_list PySem.F.slot_list_append PySem.F.type_list_append mt_append (pv 12) (pa_cons (pe_call (ok_Lup_to T O) (hr.mono (by decide)) (by rfl) O.m_Lup_to O.F_Lup_to.kp O.b_Lup_to .nil pass0 (pa_cons (pv 13) (pa_cons (pe_ifExp (pt_cmpR op_gt (pv 14) pe_int (nomark _)) (pe_callB (r := Jv.rMinA K) (Jv.cr_minA rfl) (by rfl) O.z_min (by decide +kernel) (pa_cons (pv 13) pa_nil)) (pe_op op_pow pe_int pe_int)) pa_nil))) pa_nil)))))))
  (pss_one (ps_expr (show PE _ _ (tBM K _ _ _ _) from pe_bm PySem.F.plainAttrs_list PySem.F.slot_list_append PySem.F.type_list_append mt_append (pv 7) (pa_cons (pe_callTy (r := Jv.rTupOf K) call_tuple_of (by rfl) O.z_tuple (by decide +kernel) (pa_cons (pv 12) pa_nil)) pa_nil)))))))
  (pss_cons (ps_set (i := 15) sc_Lgoals.nd rfl (Or.inl rfl) (pe_call (E := E0) (ok_cheapest_goals T O) (hr.mono (by decide)) (by rfl) O.m_cheapest_goals O.F_cheapest_goals.kp O.b_cheapest_goals .nil passL (pa_cons (pv 5) (pa_cons (pv 6) pa_nil))))
  (pss_cons (ps_if (PW.pt (pw_or (pt_cmpR op_ne (pe_call (E := E0) (ok_floor_of T O) (hr.mono (by decide)) (by rfl) O.m_floor_of O.F_floor_of.kp O.b_floor_of .nil passL (pa_cons (pv 5) (pa_cons (pv 6) pa_nil))) (pv 8) (nomark _)) (pw_or (pt_cmpR (Jv.op_neO (ok_Goalsu_equ T O) O.h_Goalsu_equ O.i_Goals_ne O.i_Goals_cm O.i_Goals_nt (hr.mono (by decide)) O.b_Goalsu_equ pass0) (pv 15) (pe_make (E := E0) O.k_Goals (ok_Goalsu_initu T O) (hr.mono (by decide)) (by rfl) O.m_Goals O.b1_Goalsu_initu.2 O.b1_Goalsu_initu.1 passL (pa_cons (pv 3) (pa_cons (pv 7) pa_nil))) (nomark _)) (pw_or1 (pt_cmpR (r := rNeD K) (op_neD hr.units) (show PE _ _ (tFld K _ _) from pe_fld (pv 15) rfl) (pe_callTy (r := Jv.rTupOf K) call_tuple_of (by rfl) O.z_tuple (by decide +kernel) (pa_cons (pv 7) pa_nil)) (nomark _)))))) (pss_one (ps_ret pe_bl)) pss_nil)
  (C8.pss_cut (ps_if (PW.pt (pw_or (pt_cmpR op_ne (show PE _ _ (tFld K _ _) from pe_fld (pv 15) rfl) (pv 3) (nomark _)) (pw_or1 (pt_cmpR (r := rNeD K) (op_neD hr.units) (show PE _ _ (tFld K _ _) from pe_fld (pv 15) rfl) (pe_tup (pa_cons pe_bl (pa_cons pe_bl pa_nil))) (nomark _))))) (pss_one (ps_ret pe_bl)) pss_nil)
  (pss_cons (ps_for PassesOwn.never rfl (show PI _ _ _ (iList K _) from pi_list (pe_lst (pa_cons (pv 9) (pa_cons (pe_op op_sub (pv 9) pe_int) (pa_cons (pe_op op_add (pv 9) pe_int) (pa_cons pe_int (pa_cons (pe_un un_neg pe_int) (pa_cons (pe_op op_pow pe_int pe_int) (pa_cons (pe_ix (r := rIx K) ix_seq (pe_ix (r := rIx K) ix_seq (pe_ix (r := rIx K) ix_seq (pv 4) pe_int (fun _ _ => rfl)) pe_int (fun _ _ => rfl)) (pe_call (ok_Ldraw T O) (hr.mono (by decide)) (by rfl) O.m_Ldraw O.F_Ldraw.kp O.b_Ldraw .nil pass0 (pa_cons (pv 0) (pa_cons (pe_op op_add (pv 3) pe_int) pa_nil))) (fun _ _ => rfl)) pa_nil))))))))) (pg_name (i := 16) sc_Lgoals.nd rfl (Or.inr rfl)) (pss_cons (ps_set (i := 17) sc_Lgoals.nd rfl (Or.inl rfl) pe_str)
  (pss_cons (ps_if (pt_cmpR op_ge (pv 16) (pv 9) (nomark _)) (pss_cons (ps_setLc (i := 12) (own := [("_law_line", 10)]) (by rfl) sc_Lgoals.nd rfl rfl (sw_true rfl rfl rfl (by decide +kernel)) (Jv.piOr (show PI _ _ _ (iList K _) from pi_list (pv 4)) (show PI _ _ _ (iTup K _) from pi_tup (pv 4))) (blkOk_by (own := [("_law_line", 10)]) (N := ["_law_hand_here", "_law_sides", "_law_counts", "_law_ladder", "_law_lines", "_law_costs_here", "_law_weights_here", "_law_wanted", "_law_floor", "_law_greatest", "_law_line", "_law_row", "_law_ends", "_law_entry", "_law_weight", "_law_told", "_law_cost", "_law_due_here"]) (sc := defScope s_Lgoals) (scope := ({ kind := .function, names := [(".0", .local), ("_law_line", .local), ("tuple", .globalImplicit), ("_law_cost", .free)], isGenerator := false, isCoroutine := false } : Scope)) (by decide +kernel)) (fun _ _ _ _ _ => (pg_name (i := 10) sc_Lgoals.nd rfl (Or.inl rfl))) (fun _ _ _ _ _ => pts_nil) (fun _ _ _ _ _ => (pe_callTy (r := Jv.rTupOf K) call_tuple_of (by rfl) O.z_tuple (by decide +kernel) (pa_cons (pe_lc (own := [("_law_entry", 13)]) (by rfl) sc_Lgoals.nd (Jv.piOr (show PI _ _ _ (iList K _) from pi_list (pv 10)) (show PI _ _ _ (iTup K _) from pi_tup (pv 10))) (blkOk_by (own := [("_law_entry", 13)]) (N := ["_law_hand_here", "_law_sides", "_law_counts", "_law_ladder", "_law_lines", "_law_costs_here", "_law_weights_here", "_law_wanted", "_law_floor", "_law_greatest", "_law_line", "_law_row", "_law_ends", "_law_entry", "_law_weight", "_law_told", "_law_cost", "_law_due_here"]) (sc := ({ kind := .function, names := [(".0", .local), ("_law_line", .local), ("tuple", .globalImplicit), ("_law_cost", .cell)], isGenerator := false, isCoroutine := false } : Scope)) (scope := ({ kind := .function, names := [(".0", .local), ("_law_entry", .local), ("_law_up_to", .globalImplicit), ("_law_cost", .free)], isGenerator := false, isCoroutine := false } : Scope)) (by decide +kernel)) (fun _ _ _ _ _ => (pg_name (i := 13) sc_Lgoals.nd rfl (Or.inl rfl))) (fun _ _ _ _ _ => pts_nil) (fun _ _ _ _ _ => (pe_call (ok_Lup_to T O) (hr.mono (by decide)) (by rfl) O.m_Lup_to O.F_Lup_to.kp O.b_Lup_to .nil pass0 (pa_cons (pv 13) (pa_cons (pv 16) pa_nil))))) pa_nil))))
  (pss_one (ps_set (i := 17) sc_Lgoals.nd rfl (Or.inl rfl) (pe_tup (pa_cons (pv 3) (pa_cons (pe_callTy (r := Jv.rTupOf K) call_tuple_of (by rfl) O.z_tuple (by decide +kernel) (pa_cons (pv 12) pa_nil)) (pa_cons (pe_tup (pa_cons pe_bl (pa_cons pe_bl pa_nil))) pa_nil))))))) pss_nil)
  (pss_one (ps_if (pt_cmpR (r := rNeD K) (op_neD hr.units) (pe_call (ok_Las_goals T O) (hr.mono (by decide)) (by rfl) O.m_Las_goals O.F_Las_goals.kp O.b_Las_goals .nil pass0 (pa_cons (pv 5) (pa_cons (pv 16) pa_nil))) (pv 17) (nomark _)) (pss_one (ps_ret pe_bl)) pss_nil)))))
  (pss_one (ps_ret (pe_call (ok_Lunlike T O) (hr.mono (by decide)) (by rfl) O.m_Lunlike O.F_Lunlike.kp O.b_Lunlike .nil pass0 (pa_cons (pv 0) (pa_cons (pv 5) (pa_cons (pv 1) pa_nil)))))))))))))))))), ?_⟩
  have p0 := gW.p0
  have p6 := gW.p6
  have q0 := gW.q0
  have q6 := gW.q6
  have lW := gW.hp
  walk_at "r"
  refine ⟨h, hl, 7, rfl, hh, ⟨by decide, Jv.log_small (by decide) (by decide)⟩, fun l H1 l0 l1 kp1 hh1 => ?_⟩
  have hx1 := hx.same kp1.hide
  have es1 := kp1 _ _ (hh.neT es) es
  walk_at "r"
  refine ⟨h, hl, s, l, p, q, rfl, hh1, es1, ⟨l0, by omega⟩, ⟨p0, p6⟩, ⟨q0, q6⟩, gW.pq, fun r C H2 gC kp2 hh2 dC => ?_⟩
  have hx2 := (hx1.same kp2.hide).same Jv.hide_le
  have es2 := kp2 _ _ (hh1.neT es1) es1
  have dC2 := dC.same Jv.hide_le
  clear hx hx1 es es1 hh hh1 kp1 kp2 dC
  walk_at "r"
  refine Jv.gen_make fun Q1 hQ1 => Jv.r_make0 ?_
  walk_at "r"
  refine mkC (.int l) dC2 linesR_T gC fun a H3 s3 _ ga => hQ1 _ _ ?_
  have hx3 := hx2.same s3
  walk_at "r"
  refine Jv.gen_make fun Q2 hQ2 => Jv.r_make0 ?_
  walk_at "r"
  refine mkW' hx3 (gW.good lineR_LL) fun b H4 s4 _ gb => hQ2 _ _ ?_
  have s24 := s3.trans s4
  have ga4 := ga.same s4
  have hx4 := hx3.same s4
  have dC4 := dC2.same s24
  have es4 := s24 _ _ es2
  have hh4 := hh2.same s24
  clear ga hx2 hx3 dC2 es2 hh2 s24 s3 s4 hQ1 hQ2 Q1 Q2
  obtain ⟨A, ws, rfl, hA, alA⟩ := Jv.tup_of dC4
  obtain ⟨X, us, rfl, hX, alX⟩ := Jv.lst_of hx4
  have lws := alA.len
  have lus := alX.len
  rw [List.length_map] at lws lus
  have lC := gC.hp
  walk_at "r"
  intro S hS
  have nS := Jv.same_new (u := .lst []) hS
  walk_at "r"
  refine ⟨fun σ H' => σ = [some (.ref h), some (.ref s), some (.ref X), some (.int l), some (.ref A), some (.ref a), some (.ref b), some (.ref S), some (.int 0), some (.int 0), none, none, none, none, none, none, none, none] ∧ H' = upd H4 S (.lst []), ?_, ?_⟩
  · walk_at "r"
    exact ⟨rfl, rfl⟩
  rintro σ H5 ⟨rfl, rfl⟩
  refine ⟨fun σ H' => ∃ (g : Int) (y10 y11 y12 y13 y14 : Option V) (xs : List V), σ = [some (.ref h), some (.ref s), some (.ref X), some (.int l), some (.ref A), some (.ref a), some (.ref b), some (.ref S), some (.int (floorN C W)), some (.int g), y10, y11, y12, y13, y14, none, none, none] ∧ Same H4 H' ∧ H' S = some (.lst xs) ∧
    Jv.DvAll K H' xs ((cheapU C W).map rowT) ∧ Great g C.flatten ∧ g ≤ 1000000, ?_, ?_⟩
  · walk_at "r"
    refine Jv.forZM (n := p) (xs := ws) (ys := us) (fun P hP => ?_) (fun j σ H1 => ∃ (fl g : Int) (y10 y11 y12 y13 y14 : Option V) (xs : List V), σ = [some (.ref h), some (.ref s), some (.ref X), some (.int l), some (.ref A), some (.ref a), some (.ref b), some (.ref S), some (.int fl), some (.int g), y10, y11, y12, y13, y14, none, none, none] ∧ Same H4 H1 ∧ H1 S = some (.lst xs) ∧
      Jv.DvAll K (Jv.hide [S] H1) xs (((cheapU C W).take j).map rowT) ∧ xs.length = j ∧ fl = ((List.zipWith floorLine C W).take j).sum ∧ Great g (C.take j).flatten ∧ g ≤ 1000000)
      ⟨0, 0, _, _, _, _, _, [], rfl, nS, upd_same, .nil, rfl, rfl, Great.nil, by decide⟩ (by omega) (fun i σ H1 ⟨_, _, _, _, _, _, _, _, _, s, _⟩ => ⟨Jv.Same.sqT s hA, Jv.sqL_at (s _ _ hX)⟩) ?_ ?_
    · walk_at "r"
      exact hP
    · rintro j x y T' σ1 H1 hx hy hT ⟨fl, g, y10, y11, y12, y13, y14, xs, rfl, s1, eS, al, ln, efl, gr, g6⟩
      have hj := (List.getElem?_eq_some_iff.mp hx).1
      have nT := Jv.same_new (u := .tup [x, y]) hT
      refine ⟨T', _, rfl, Jv.sqT_at upd_same, rfl, _, _, rfl, _, _, rfl, rfl, ?_⟩
      obtain ⟨d1, c1, c2⟩ := alA.at hx
      obtain ⟨d2, c3, c4⟩ := alX.at hy
      rw [List.getElem?_map] at c1 c3
      obtain ⟨line, c5, rfl⟩ := Option.map_eq_some_iff.mp c1
      obtain ⟨row, c6, rfl⟩ := Option.map_eq_some_iff.mp c3
      have hline := List.mem_of_getElem? c5
      have hrow := List.mem_of_getElem? c6
      have l1 := gC.hq line hline
      have l2 := gW.hq row hrow
      have sT := s1.trans nT
      have eS' := nT _ _ eS
      have al' := al.same (Jv.hide_same nT)
      generalize upd H1 T' (.tup [x, y]) = H2 at sT eS' al' ⊢
      have c2h : Jv.Dv K (Jv.hide [S] H2) x (rowT line) := by
        have c2' : Jv.Dv K (Jv.hide [] H4) x (rowT line) := by rw [Jv.hide_nil]; exact c2
        exact c2'.same (Jv.hide_more sT hS)
      obtain ⟨Y1, yl, rfl, hY1, aY1⟩ := Jv.tup_of c2h
      obtain ⟨Y2, zl, rfl, hY2, aY2⟩ := Jv.lst_of (c4.same sT)
      obtain rfl := Jv.dv_intsV aY2
      have ly := aY1.len
      rw [List.length_map] at ly
      have mins : ∀ {i : Nat} {v : V}, yl[i]? = some v → ∃ ns B2, line[i]? = some ns ∧ v = .ref B2 ∧ SqT K H2 B2 (ns.map V.int) ∧ ns ≠ [] ∧ ns.length ≤ 7 := fun {i v} hv => by
        obtain ⟨dn, g1, g2⟩ := aY1.at hv
        rw [List.getElem?_map] at g1
        obtain ⟨ns, g3, rfl⟩ := Option.map_eq_some_iff.mp g1
        obtain ⟨B2, xs2, rfl, hB2, aB2⟩ := Jv.tup_of g2
        obtain rfl := Jv.dv_intsV aB2
        have := gC.len line hline ns (List.mem_of_getElem? g3)
        have := gC.l6
        exact ⟨ns, B2, g3, rfl, Jv.Same.sqT Jv.hide_le hB2, gC.ne hline (List.mem_of_getElem? g3), by omega⟩
      have hY1' := Jv.Same.sqT Jv.hide_le hY1
      walk_at "r"
      intro B hB
      have nB := Jv.same_new (u := .lst []) hB
      have nBS : B ≠ S := fun z => by rw [z, eS'] at hB; cases hB
      walk_at "r"
      refine Jv.forZM (n := q) (xs := yl) (ys := row.map V.int) (fun P hP => ?_) (fun i σ H3 => ∃ (fl2 g2 : Int) (y13 y14 : Option V) (es : List V), σ = [some (.ref h), some (.ref s), some (.ref X), some (.int l), some (.ref A), some (.ref a), some (.ref b), some (.ref S), some (.int fl2), some (.int g2), some (.ref Y1), some (.ref Y2), some (.ref B), y13, y14, none, none, none] ∧ Same H2 H3 ∧ H3 B = some (.lst es) ∧
        Jv.DvAll K (Jv.hide [B, S] H3) es (((List.zipWith cheapE line row).take i).map fun ns => .tuple (ns.map .int)) ∧ es.length = i ∧ fl2 = fl + ((List.zipWith (fun ns x => x * minI ns) line row).take i).sum ∧ Great g2 ((C.take j).flatten ++ line.take i) ∧ g2 ≤ 1000000)
        ⟨fl, g, _, _, [], rfl, nB, upd_same, .nil, rfl, by simp, by simpa using gr, g6⟩ (by rw [List.length_map]; omega) (fun i σ H1 ⟨_, _, _, _, _, _, s, _⟩ => ⟨Jv.Same.sqT s hY1', Jv.sqL_at (s _ _ hY2)⟩) ?_ ?_
      · walk_at "r"
        exact hP
      · rintro i x y T2 σ1 H3 hx2 hy2 hT2 ⟨fl2, g2, y13', y14', es, rfl, s3, eB, alE, lnE, efl2, gr2, g26⟩
        obtain ⟨ns, B2, g3, rfl, hB2, nne, n7⟩ := mins hx2
        obtain ⟨n, hn1, rfl⟩ := Jv.map_at hy2
        have nT2 := Jv.same_new (u := .tup [.ref B2, .int n]) hT2
        refine ⟨T2, _, rfl, Jv.sqT_at upd_same, rfl, _, _, rfl, _, _, rfl, rfl, ?_⟩
        have s3' := s3.trans nT2
        have eB' := nT2 _ _ eB
        have alE' := alE.same (Jv.hide_same nT2)
        generalize upd H3 T2 (.tup [.ref B2, .int n]) = H6 at s3' eB' alE' ⊢
        have hB6 := Jv.Same.sqT s3' hB2
        have nb := gW.ent row hrow n (List.mem_of_getElem? hn1)
        obtain ⟨mm1, mm2⟩ := minI_spec nne
        have mb := gC.ent line hline ns (List.mem_of_getElem? g3) _ mm1
        walk_at "r"
        refine ⟨_, ns, rfl, ⟨B2, rfl, .inr hB6⟩, List.length_pos_iff.mpr nne, fun m m1 m2 => ?_⟩
        rw [minI_of m1 m2]
        refine ⟨n, minI ns, rfl, rfl, .inl ⟨by omega, by omega⟩, ?_⟩
        walk_at "r"
        refine ⟨_, ns, rfl, ⟨B2, rfl, .inr hB6⟩, List.length_pos_iff.mpr nne, fun m m1 m2 => ?_⟩
        rw [minI_of m1 m2]
        have c7 : (List.zipWith cheapE line row)[i]? = some (cheapE ns n) := by rw [List.getElem?_zipWith, g3, hn1]
        have c8 : (List.zipWith (fun ns x => x * minI ns) line row)[i]? = some (n * minI ns) := by rw [List.getElem?_zipWith, g3, hn1]
        have ec := cheap_law gC hline (List.mem_of_getElem? g3) n
        have lq := (List.getElem?_eq_some_iff.mp g3).1
        have app : ∀ (t : Addr) (H7 : Hp), Same H6 H7 → H6 t = none → H7 t = some (.tup ((cheapE ns n).map V.int)) →
            ∃ (fl2' g2' : Int) (y13 y14 : Option V) (es' : List V), [some (V.ref h), some (.ref s), some (.ref X), some (.int l), some (.ref A), some (.ref a), some (.ref b), some (.ref S), some (.int (fl2 + n * minI ns)), some (.int (if minI ns > g2 then minI ns else g2)), some (.ref Y1), some (.ref Y2), some (.ref B), some (.ref B2), some (.int n), none, none, none] = [some (.ref h), some (.ref s), some (.ref X), some (.int l), some (.ref A), some (.ref a), some (.ref b), some (.ref S), some (.int fl2'), some (.int g2'), some (.ref Y1), some (.ref Y2), some (.ref B), y13, y14, none, none, none] ∧ Same H2 (upd H7 B (.lst (es ++ [.ref t]))) ∧ upd H7 B (.lst (es ++ [.ref t])) B = some (.lst es') ∧
              Jv.DvAll K (Jv.hide [B, S] (upd H7 B (.lst (es ++ [.ref t])))) es' (((List.zipWith cheapE line row).take (i + 1)).map fun ns => .tuple (ns.map .int)) ∧ es'.length = i + 1 ∧ fl2' = fl + ((List.zipWith (fun ns x => x * minI ns) line row).take (i + 1)).sum ∧ Great g2' ((C.take j).flatten ++ line.take (i + 1)) ∧ g2' ≤ 1000000 := fun t H7 s7 ht et => by
          refine ⟨_, _, _, _, es ++ [.ref t], rfl, fun c o hc => by rw [upd_ne (ne_of_none hc hB)]; exact s7 _ _ (s3' _ _ hc), upd_same, ?_, by rw [List.length_append, lnE]; rfl, ?_, ?_, ?_⟩
          · rw [Jv.hide_upd, Jv.take_more c7, List.map_append]
            refine Jv.DvAll.snoc (.tup (Jv.sqT_at (Jv.hide_at (fun m => ?_) et)) (Jv.dv_ints _)) (alE'.same (Jv.hide_same s7))
            rcases List.mem_cons.mp m with z | m
            · rw [z, eB'] at ht; cases ht
            · rw [List.mem_singleton.mp m, s3' _ _ eS'] at ht; cases ht
          · rw [Jv.take_more c8, sum_snoc, efl2, Int.add_assoc]
          · rw [Jv.take_more g3, ← List.append_assoc]; exact gr2.snoc ns
          · split <;> omega
        walk_at "r"
        refine Jv.r_dec (fun h0 => ?_) (fun h0 => ?_)
        · rw [if_pos (show n > 0 from h0)] at ec
          walk_at "r"
          refine ⟨_, ns, rfl, ⟨B2, rfl, .inr hB6⟩, List.length_pos_iff.mpr nne, fun m m1 m2 => ?_⟩
          rw [minI_of m1 m2]
          walk_at "r"
          refine ⟨B2, minI ns, ns, rfl, hB6, by omega, fun t H7 s7 ht et => ?_⟩
          rw [ec] at et
          walk_at "r"
          exact Jv.r_app (s7 _ _ eB') (by omega) (app t H7 s7 ht et)
        · rw [if_neg (show ¬ n > 0 from h0)] at ec
          walk_at "r"
          refine ⟨B2, 10 ^ Int.toNat 6, ns, rfl, hB6, by omega, fun t H7 s7 ht et => ?_⟩
          rw [show (10 : Int) ^ Int.toNat 6 = 1000000 from by decide, ec] at et
          walk_at "r"
          exact Jv.r_app (s7 _ _ eB') (by omega) (app t H7 s7 ht et)
      · rintro σ1 H3 ⟨fl2, g2, y13', y14', es, rfl, s3, eB, alE, lnE, efl2, gr2, g26⟩
        have eS3 := s3 _ _ eS'
        rw [List.take_of_length_le (by rw [List.length_zipWith]; omega)] at alE efl2
        rw [show line.take q = line from List.take_of_length_le (by omega)] at gr2
        walk_at "r"
        refine Jv.r_tupOfL (Jv.sqL_at eB) fun t ht => ?_
        have hN : Jv.Held [S] H3 := fun b m => by rw [List.mem_singleton.mp m]; exact ⟨_, eS3⟩
        have dT : Jv.Dv K (Jv.hide [S] (upd H3 t (.tup es))) (.ref t) (rowT (List.zipWith cheapE line row)) := Jv.dv_new ht hN (alE.same Jv.hide_less)
        generalize e7 : upd H3 t (.tup es) = H7 at dT
        obtain ⟨s7, f7⟩ := Jv.new_of ht e7
        clear e7
        have eS7 := s7 _ _ eS3
        have s27 := s3.trans s7
        walk_at "r"
        refine Jv.r_app eS7 (by omega) ?_
        have c7 : (cheapU C W)[j]? = some (List.zipWith cheapE line row) := by unfold cheapU; rw [List.getElem?_zipWith, c5, c6]
        have c8 : (List.zipWith floorLine C W)[j]? = some (floorLine line row) := by rw [List.getElem?_zipWith, c5, c6]
        refine ⟨fl2, g2, _, _, _, _, _, xs ++ [.ref t], rfl, fun c o hc => by rw [upd_ne (ne_of_none hc hS)]; exact s27 _ _ (sT _ _ hc), upd_same, ?_, by rw [List.length_append, ln]; rfl, ?_, ?_, g26⟩
        · rw [Jv.hide_upd, Jv.take_more c7, List.map_append]
          exact Jv.DvAll.snoc dT (al'.same (Jv.hide_same s27))
        · rw [Jv.take_more c8, sum_snoc, efl2, efl]; rfl
        · rw [Jv.take_more c5, List.flatten_append]
          simpa using gr2
    · rintro σ1 H1 ⟨fl, g, y10, y11, y12, y13, y14, xs, rfl, s1, eS, al, ln, efl, gr, g6⟩
      rw [List.take_of_length_le (by rw [(gC.cheap gW).hp]; exact Nat.le_refl _)] at al
      rw [List.take_of_length_le (by rw [List.length_zipWith]; omega)] at efl
      rw [List.take_of_length_le (by omega)] at gr
      subst efl
      exact ⟨g, _, _, _, _, _, xs, rfl, s1, eS, al.same Jv.hide_le, gr, g6⟩
  rintro σ H5 ⟨g, y10, y11, y12, y13, y14, xs, rfl, s5, eS, al, gr, g6⟩
  have wd := gC.cheap gW
  walk_at "r"
  refine ⟨a, b, l, C, W, p, q, p, q, rfl, ga4.same s5, gC, gb.same s5, gW, fun n => (n ⟨rfl, rfl⟩).elim, fun _ rT H7 s7 gt => ?_⟩
  walk_at "r"
  have s57 := s5.trans s7
  refine ⟨a, b, l, C, W, p, q, p, q, rfl, ga4.same s57, gC, gb.same s57, gW, fun n => (n ⟨rfl, rfl⟩).elim, fun _ H8 s8 => ?_⟩
  rw [floor_eq gC gW]
  walk_at "r"
  rw [decide_eq_true rfl]
  walk_at "r"
  have s58 := s57.trans s8
  have s78 := s7.trans s8
  have dS : Jv.Dv K H8 (.ref S) (wantLT (cheapU C W)) := .lst (s78 _ _ eS) (al.same s78)
  have hdk : Jv.Dv K H8 (.ref T.w0_Goalsu_initu) (.tuple [.bool false, .bool false]) := .tup (O.y0_Goalsu_initu _) (.cons (.bl _) (.cons (.bl _) .nil))
  have gt8 := gt.same s8
  refine Jv.gen_make fun Q1 hQ1 => Jv.r_make0 ?_
  walk_at "r"
  refine mk_good (.int l) dS hdk (wd.good linesLT rfl) fun rG H9 s9 _ gg => hQ1 _ _ ?_
  rw [want_eq, wd.same] at gg
  have gt9 := gt8.same s9
  obtain ⟨dx1, w1, k1, t1, e1, eW1, eK1, _⟩ := id gt9
  obtain ⟨dx2, w2, k2, t2, e2, _⟩ := id gg
  refine ⟨rT, _, _, rG, rfl, rfl, e1, .inl ⟨_, _, e2⟩, ?_⟩
  refine ⟨rT, rG, l, cheapU C W, false, false, p, q, rfl, gt9, .inl ⟨l, cheapU C W, false, false, p, q, gg, ?_⟩⟩
  refine ⟨_, rfl, ?_⟩
  rw [decide_eq_true ⟨rfl, rfl, rfl, rfl⟩]
  walk_at "r"
  refine Jv.r_fld ?_
  walk_at "r"
  refine ⟨rT, _, dx1, _, _, rfl, e1, O.o_Goals, O.n_Goals_wanted, rfl, ?_⟩
  walk_at "r"
  have s79 := s78.trans s9
  refine Jv.r_tupOfL (Jv.sqL_at (s79 _ _ eS)) fun t ht => ?_
  have dT : Jv.Dv K (upd H9 t (.tup xs)) (.ref t) (wantT (cheapU C W)) := .tup (Jv.sqT_at upd_same) ((al.same s79).same (Jv.same_new ht))
  have dW1 := eW1.same (Jv.same_new (u := .tup xs) ht)
  have sA := (s58.trans s9).trans (Jv.same_new (u := .tup xs) ht)
  have gtA := gt9.same (Jv.same_new (u := .tup xs) ht)
  generalize upd H9 t (.tup xs) = HA at dT dW1 sA gtA ⊢
  refine Jv.ne_self dW1 dT (shaped_want _) ?_
  clear dT dW1 dS hdk e1 e2 eW1 eK1 gg gt gt8 gt9 s79 s78 s58 s57 s9 s8 s7 hQ1 Q1 al eS s5
  walk_at "r"
  refine ⟨fun σ H' => σ = [some (.ref h), some (.ref s), some (.ref X), some (.int l), some (.ref A), some (.ref a), some (.ref b), some (.ref S), some (.int (floorN C W)), some (.int g), y10, y11, y12, y13, y14, some (.ref rT), none, none] ∧ Same H4 H', ?_, ?_⟩
  · obtain ⟨dx1, w1, k1, t1, e1, eW1, eK1, _⟩ := gtA
    walk_at "r"
    refine Jv.r_fld ?_
    walk_at "r"
    refine ⟨rT, _, dx1, _, _, rfl, e1, O.o_Goals, O.n_Goals_ladder, rfl, ?_⟩
    walk_at "r"
    rw [decide_eq_true rfl]
    walk_at "r"
    refine Jv.r_fld ?_
    walk_at "r"
    refine ⟨rT, _, dx1, _, _, rfl, e1, O.o_Goals, O.n_Goals_knows, rfl, ?_⟩
    walk_at "r"
    intro t ht
    have n1 := Jv.same_new (u := .tup [.bl false, .bl false]) ht
    refine Jv.ne_self (eK1.same n1) (.tup (Jv.sqT_at upd_same) (.cons (.bl _) (.cons (.bl _) .nil))) (shaped_bb _ _) ?_
    walk_at "r"
    exact ⟨rfl, sA.trans n1⟩
  clear sA gtA
  rintro σ H5 ⟨rfl, s5⟩
  have ga5 := ga4.same s5
  have dC5 := dC4.same s5
  have hA5 := Jv.Same.sqT s5 hA
  have alA5 := alA.same s5
  have es5 := s5 _ _ es4
  have hh5 := hh4.same s5
  clear ga4 gb dC4 hA alA es4 hh4 hX alX hx4 s5
  walk_at "r"
  obtain ⟨c0, ec0⟩ : ∃ c0, C[0]? = some c0 := ⟨_, List.getElem?_eq_getElem (by omega)⟩
  have lc0 := gC.hq c0 (List.mem_of_getElem? ec0)
  obtain ⟨n0, en0⟩ : ∃ n0, c0[0]? = some n0 := ⟨_, List.getElem?_eq_getElem (by omega)⟩
  have ln0 := gC.len c0 (List.mem_of_getElem? ec0) n0 (List.mem_of_getElem? en0)
  obtain ⟨v0, hv0, dv0⟩ := alA5.of (i := 0) (d := rowT c0) (by rw [List.getElem?_map, ec0]; rfl)
  obtain ⟨xs0, sk0, al0⟩ := dv0.sk rfl
  obtain ⟨v1, hv1, dv1⟩ := al0.of (i := 0) (d := .tuple (n0.map .int)) (by rw [List.getElem?_map, en0]; rfl)
  refine Jv.Sk.ix (xs := ws) ⟨A, rfl, .inr hA5⟩ (Jv.at_i (k := 0) (by decide) hv0) ?_
  walk_at "r"
  refine sk0.ix (Jv.at_i (k := 0) (by decide) hv1) ?_
  walk_at "r"
  refine ⟨h, hl, _, rfl, hh5, ⟨by omega, Jv.log_small (by omega) (by omega)⟩, fun z H6 z0 z1 kp6 hh6 => ?_⟩
  have dv6 := ((dvI_hide hh5.lst dv1).same kp6.hide).same Jv.hide_le
  have ga6 := ((CAt.hid hh5.lst ga5).same kp6.hide).same Jv.hide_le
  have dC6 := ((dvT_hide hh5.lst dC5).same kp6.hide).same Jv.hide_le
  have es6 := kp6 _ _ (hh5.neT es5) es5
  clear ga5 dC5 hA5 alA5 es5 hh5 dv0 sk0 al0 dv1 kp6
  obtain ⟨xs6, sk6, al6⟩ := dv6.sk rfl
  obtain rfl := Jv.dv_intsV al6
  obtain ⟨c9, ec9⟩ : ∃ c9, n0[z.toNat]? = some c9 := ⟨_, List.getElem?_eq_getElem (by omega)⟩
  walk_at "r"
  refine sk6.ix (v := .int c9) (Jv.at_i z0 (by rw [List.getElem?_map, ec9]; rfl)) ?_
  walk_at "r"
  intro t ht
  generalize e7 : upd H6 t (.lst _) = HB
  obtain ⟨s7, f7⟩ := Jv.new_of ht e7
  clear e7
  have gaB := ga6.same s7
  have dCB := dC6.same s7
  have esB := s7 _ _ es6
  have hhB := hh6.same s7
  clear ga6 dC6 es6 hh6 sk6 al6 dv6
  obtain ⟨A', ws, eA', hA, alA⟩ := Jv.tup_of dCB
  cases eA'
  have lws := alA.len
  rw [List.length_map] at lws
  walk_at "r"
  refine ⟨t, rfl, ⟨_, Jv.sqL_at f7⟩, ?_⟩
  refine for_list (xs := ([g, g - 1, g + 1, 0, -1, 10 ^ Int.toNat 9, c9] : List Int).map V.int) (fun i σ H1 => ∃ y10 y12 y13 y16 y17, σ = [some (.ref h), some (.ref s), some (.ref X), some (.int l), some (.ref A), some (.ref a), some (.ref b), some (.ref S), some (.int (floorN C W)), some (.int g), y10, y11, y12, y13, y14, some (.ref rT), y16, y17] ∧ Same HB H1) ⟨_, _, _, _, _, rfl, Same.refl _⟩ (fun i σ H1 _ ⟨_, _, _, _, _, _, s⟩ => Jv.sqL_at (s _ _ f7)) ?_ ?_
  · rintro i v σ H1 hv ⟨y10', y12', y13', y16', y17', rfl, s1⟩
    obtain ⟨c, _, rfl⟩ := Jv.map_at hv
    have hA1 := Jv.Same.sqT s1 hA
    walk_at "r"
    refine Jv.r_dec (fun hc => ?_) (fun hc => ?_)
    · have up := gr.high gC hc
      walk_at "r"
      refine Jv.lcS2 (K := K) (N := []) (j := 10) (i := 4) rfl ⟨A, rfl, .inr hA1⟩ .nil ((upU c C).map rowT) (by rw [List.length_map]; unfold upU; rw [List.length_map]; omega) (by omega) (fun i v e D1 H6 hi hv he s6 hN1 hD1 PP hP => ?_) (fun D1 ys H6 s6 hD1 eD1 dv1 _ => ?_)
      · obtain ⟨dl, c1, c2⟩ := alA.at hv
        rw [List.getElem?_map] at c1
        obtain ⟨line, c3, rfl⟩ := Option.map_eq_some_iff.mp c1
        have hline := List.mem_of_getElem? c3
        have hlq := gC.hq line hline
        have ee : e = rowT (line.map fun ns => endsUp ns c) := by
          unfold upU at he
          rw [List.map_map, List.getElem?_map, c3] at he
          exact (Option.some.inj he).symm
        subst ee
        obtain ⟨us, skU, alU⟩ := ((c2.same s1).same s6).sk rfl
        have lus := alU.len
        rw [List.length_map] at lus
        walk_at "r"
        refine Jv.lcS2 (K := K) (N := [D1]) (j := 13) (i := 10) rfl skU hN1 ((line.map fun ns => endsUp ns c).map fun ns => .tuple (ns.map .int)) (by rw [List.length_map, List.length_map]; omega) (by omega) (fun i2 u e2' D2 H7 hi2 hu he2 s7 hN2 hD2 PP2 hP2 => ?_) (fun D2 ys2 H7 s7 hD2 eD2 dv2 _ => ?_)
        · obtain ⟨dn, g1, g2⟩ := alU.at hu
          rw [List.getElem?_map] at g1
          obtain ⟨ns, g3, rfl⟩ := Option.map_eq_some_iff.mp g1
          have hnl := gC.len line hline ns (List.mem_of_getElem? g3)
          have ee2 : e2' = .tuple ((endsUp ns c).map .int) := by
            rw [List.map_map, List.getElem?_map, g3] at he2
            exact (Option.some.inj he2).symm
          subst ee2
          obtain ⟨A2, xs2, rfl, hA2, aA2⟩ := Jv.tup_of (g2.same s7)
          obtain rfl := Jv.dv_intsV aA2
          walk_at "r"
          refine ⟨A2, c, ns, rfl, hA2, by omega, fun t8 H8 s8 ht8 et8 => ?_⟩
          exact hP2 _ _ s8 (.tup (Jv.sqT_at (Jv.hide_at (by
            intro m
            obtain ⟨o, ho⟩ := hN2 t8 m
            rw [ht8] at ho; cases ho) et8)) (Jv.dv_ints _))
        · walk_at "r"
          refine ⟨D2, _, rfl, .inl ⟨Jv.sqL_at eD2, fun t2 ht2 => ?_⟩⟩
          exact hP _ _ (s7.trans (Jv.same_new ht2)) (Jv.dv_new ht2 (hN1.same s7) dv2)
      · rw [Jv.hide_nil] at dv1
        walk_at "r"
        refine Jv.r_tupOfL (Jv.sqL_at eD1) fun t2 ht2 => ?_
        have n2 := Jv.same_new (u := .tup ys) ht2
        have d2 : Jv.Dv K (upd H6 t2 (.tup ys)) (.ref t2) (wantT (upU c C)) := .tup (Jv.sqT_at upd_same) (dv1.same n2)
        generalize upd H6 t2 (.tup ys) = G2 at n2 d2 ⊢
        walk_at "r"
        intro t3 ht3
        generalize e3 : upd G2 t3 _ = G3
        obtain ⟨n3, f3⟩ := Jv.new_of ht3 e3
        clear e3
        walk_at "r"
        intro t4 ht4
        generalize e4 : upd G3 t4 _ = G4
        obtain ⟨n4, f4⟩ := Jv.new_of ht4 e4
        clear e4
        have d4 : Jv.Dv K G4 (.ref t4) (.tuple [.int l, wantT (upU c C), .tuple [.bool false, .bool false]]) := .tup (Jv.sqT_at f4) (.cons (.int _) (.cons ((d2.same n3).same n4) (.cons (.tup (Jv.sqT_at (n4 _ _ f3)) (.cons (.bl _) (.cons (.bl _) .nil))) .nil)))
        have s14 := s1.trans (s6.trans (n2.trans (n3.trans n4)))
        walk_at "r"
        refine ⟨a, c, l, C, p, q, rfl, gaB.same s14, gC, fun ⟨line, h1, ns, h2, e⟩ => absurd e (up line h1 ns h2), fun _ r5 H8 s8 d8 => ?_⟩
        walk_at "r"
        refine Jv.ne_self d8 (d4.same s8) (shaped_told _ _) ?_
        walk_at "r"
        exact ⟨_, _, _, _, _, rfl, s14.trans s8⟩
    · have low := gr.low gC (Int.not_le.mp hc)
      walk_at "r"
      refine ⟨a, c, l, C, p, q, rfl, gaB.same s1, gC, fun _ H8 s8 => ?_, fun hN => ?_⟩
      · walk_at "r"
        refine Jv.ne_self (.str _) (.str _) (by decide +kernel) ?_
        walk_at "r"
        exact ⟨_, _, _, _, _, rfl, s1.trans s8⟩
      · obtain ⟨line, h1, ns, h2, e⟩ := low
        exact absurd e (hN line h1 ns h2)
  · rintro σ H7 ⟨y10', y12', y13', y16', y17', rfl, s1⟩
    walk_at "r"
    exact ⟨h, hl, a, s, l, C, p, q, rfl, hhB.same s1, CAt.hid (hhB.same s1).lst (gaB.same s1), gC, s1 _ _ esB, fun H' => k H'⟩
end
end K50

namespace K50
open PySem PySem.Spec PyProof.Rows L2
/-! ### weights, as the law asks them -/
def sp_Lweights (K : PySem.W.Frag) : Sp := fun vs H Q _ => ∃ h hl s x L, ∃ p q : Nat, vs = [.ref h, .ref s, x] ∧ Jv.Hand H h hl ∧ H s = some (.tup [.int p, .int q]) ∧ Jv.Dv K (Jv.hide [h] H) x (linLw L) ∧ Gw L p q ∧
  ∀ H', Jv.Kp h H H' → Jv.Hand H' h hl → Q (.bl true) H'
theorem shaped_facts (L : List (List Int)) (p q t : Int) : SeqAt.shaped (.tuple [linW L, .tuple [.int p, .int q], .int t]) = true := by
  have h1 := can_linW L
  have h2 := dep_linW L
  refine shaped_of (by simp [PyData.canLay0, PyData.canLayAll0, h1]) ?_
  simp [PyData.depth, PyData.depthAll]; omega
section
variable {K : PySem.W.Frag} {σ : L2.St} {H : Hp} {te : TE} {Q : VK} {j : Nat}
theorem lcRn {ta : TA} {n : Nat} (hit : ∀ P : List V → Hp → Prop, P [.int n] H → ta σ H P) (es : List PyData) (hl : es.length = n) (few : n ≤ 900)
    (hs : ∀ (i : Nat) (e : PyData) (D : Addr) (H1 : Hp), i < n → es[i]? = some e → Same H H1 → Jv.Held [D] H1 → H D = none → ∀ P : VK, (∀ y H2, Same H1 H2 → Jv.Dv K (Jv.hide [D] H2) y e → P y H2) → te ((σ.set j none).set j (some (.int (0 + (i : Nat))))) H1 P)
    (hd : ∀ D ys H1, Same H H1 → H D = none → H1 D = some (.lst ys) → Jv.DvAll K H1 ys es → Q (.ref D) H1) : tLc (iRng1 ta) (gName j) tYes te [j] σ H Q :=
  hit _ ⟨n, rfl, by omega, by omega, Jv.lcD (N := []) (walk_range (lo := 0) (n := ((n : Nat) : Int).toNat)) (fun _ _ => trivial) Jv.yfn .nil es (by omega) (by omega) (fun i v e D H1 hi hv he s hN hD P hP => by subst hv; exact hs i e D H1 (by omega) he s hN hD P hP) fun D ys H1 s hD e al _ => hd D ys H1 s hD e (by rw [Jv.hide_nil] at al; exact al)⟩
end
/-- what stands through the law's loop -/
structure Wx (K : PySem.W.Frag) (C h hl s b : Addr) (x rD : V) (L : List (List Int)) (p q : Nat) (H : Hp) : Prop where
  hh : Jv.Hand H h hl
  es : H s = some (.tup [.int p, .int q])
  x : Jv.Dv K (Jv.hide [h] H) x (linLw L)
  b : WAt K H C b L p q
  d : Jv.Dv K H rD (linW L)
section
variable {K : PySem.W.Frag} {C h hl s b : Addr} {x rD : V} {L : List (List Int)} {p q : Nat} {H H' : Hp}
theorem Wx.same (f : Wx K C h hl s b x rD L p q H) (z : Same H H') : Wx K C h hl s b x rD L p q H' := ⟨f.hh.same z, z _ _ f.es, f.x.same (Jv.hide_same z), f.b.same z, f.d.same z⟩
theorem Wx.kp (f : Wx K C h hl s b x rD L p q H) (k : Jv.Kp h H H') (hh : Jv.Hand H' h hl) : Wx K C h hl s b x rD L p q H' :=
  ⟨hh, k _ _ (f.hh.neT f.es) f.es, f.x.same k.hide, ((f.b.hid f.hh.lst).same k.hide).same Jv.hide_le, ((dvW_hide f.hh.lst f.d).same k.hide).same Jv.hide_le⟩
end
section
variable {P : Program} {w : World} {K : PySem.W.Frag} {mg : Str → Option Value} {base : Heap}
theorem ok_Lweights (T : Tx) (O : Ok K mg T) : FnOk P w K mg base CX0 8 T.f_Lweights T.d_Lweights ["_law_hand_here", "_law_sides", "_law_lines"] (sp_Lweights K) := by
  refine O.F_Lweights.ok sc_Lweights (fun vs H Q E h => by obtain ⟨_, _, _, _, _, _, _, rfl, _⟩ := h; rfl) (fun cdv A0 outer s0 H vs Q E hr h => ?_)
  obtain ⟨h, hl, s, x, L, p, q, rfl, hh, es, hx, gW, k⟩ := h
  refine ⟨_, (pss_cons (ps_setLc (i := 3) (own := [("_law_line", 17)]) (by rfl) sc_Lweights.nd rfl rfl (sw_true rfl rfl rfl (by decide +kernel)) (Jv.piOr (show PI _ _ _ (iList K _) from pi_list (pv 2)) (show PI _ _ _ (iTup K _) from pi_tup (pv 2))) (blkOk_by (own := [("_law_line", 17)]) (N := ["_law_hand_here", "_law_sides", "_law_lines", "_law_handed", "_law_weights_here", "_law_due_here", "_law_total", "_law_turn", "_law_spoilt", "_law_other", "_law_size", "_law_product", "_law_wanted", "_law_asked", "_law_at", "_law_each", "_law_right", "_law_line", "_law_weight", "_law_kind"]) (sc := defScope s_Lweights) (scope := ({ kind := .function, names := [(".0", .local), ("_law_line", .local), ("list", .globalImplicit)], isGenerator := false, isCoroutine := false } : Scope)) (by decide +kernel)) (fun _ _ _ _ _ => (pg_name (i := 17) sc_Lweights.nd rfl (Or.inl rfl))) (fun _ _ _ _ _ => pts_nil) (fun _ _ _ _ _ => (pe_callTy (r := Jv.rListOf K) call_list_of (by rfl) O.z_list (by decide +kernel) (pa_cons (pv 17) pa_nil))))
  (pss_cons (ps_set (i := 4) sc_Lweights.nd rfl (Or.inl rfl) (pe_make (E := E0) O.k_Weights (ok_Weightsu_initu T O) (hr.mono (by decide)) (by rfl) O.m_Weights O.b_Weightsu_initu .nil passL (pa_cons (pv 3) pa_nil)))
  (pss_cons (ps_asg pe_non (pg_sub (pe_ix (r := rIxL K) ix_list (pv 3) pe_int (fun _ _ => rfl)) pe_int set_list))
  (pss_cons (ps_set (i := 5) sc_Lweights.nd rfl (Or.inl rfl) (pe_call (ok_Ltuples T O) (hr.mono (by decide)) (by rfl) O.m_Ltuples O.F_Ltuples.kp O.b_Ltuples .nil pass0 (pa_cons (pv 2) pa_nil)))
  (C8.pss_cut (ps_set (i := 6) sc_Lweights.nd rfl (Or.inl rfl) (pe_callB (r := Jv.rSumA K) (Jv.cr_sumA rfl) (by rfl) O.z_sum (by decide +kernel) (pa_cons (pe_lc (own := [("_law_line", 17)]) (by rfl) sc_Lweights.nd (Jv.piOr (show PI _ _ _ (iList K _) from pi_list (pv 2)) (show PI _ _ _ (iTup K _) from pi_tup (pv 2))) (blkOk_by (own := [("_law_line", 17)]) (N := ["_law_hand_here", "_law_sides", "_law_lines", "_law_handed", "_law_weights_here", "_law_due_here", "_law_total", "_law_turn", "_law_spoilt", "_law_other", "_law_size", "_law_product", "_law_wanted", "_law_asked", "_law_at", "_law_each", "_law_right", "_law_line", "_law_weight", "_law_kind"]) (sc := defScope s_Lweights) (scope := ({ kind := .function, names := [(".0", .local), ("_law_line", .local), ("sum", .globalImplicit)], isGenerator := false, isCoroutine := false } : Scope)) (by decide +kernel)) (fun _ _ _ _ _ => (pg_name (i := 17) sc_Lweights.nd rfl (Or.inl rfl))) (fun _ _ _ _ _ => pts_nil) (fun _ _ _ _ _ => (pe_callB (r := Jv.rSumA K) (Jv.cr_sumA rfl) (by rfl) O.z_sum (by decide +kernel) (pa_cons (pv 17) pa_nil)))) pa_nil)))
  (pss_cons (ps_if (PW.pt (pw_or (pt_cmpR (r := rNeD K) (op_neD hr.units) (pe_tup (pa_cons (show PE _ _ (tFld K _ _) from pe_fld (pv 4) rfl) (pa_cons (show PE _ _ (tFld K _ _) from pe_fld (pv 4) rfl) (pa_cons (pe_prop (pv 4) O.o_Weights O.p_Weights_weight_sum (ok_Weights_weight_sum T O) (hr.mono (by decide)) O.b_Weights_weight_sum .nil pass0 rfl) pa_nil)))) (pe_tup (pa_cons (pv 5) (pa_cons (pv 1) (pa_cons (pv 6) pa_nil)))) (nomark _)) (pw_or1 (pt_cmpR (Jv.op_neO (ok_Weightsu_equ T O) O.h_Weightsu_equ O.i_Weights_ne O.i_Weights_cm O.i_Weights_nt (hr.mono (by decide)) O.b_Weightsu_equ pass0) (pv 4) (pe_make (E := E0) O.k_Weights (ok_Weightsu_initu T O) (hr.mono (by decide)) (by rfl) O.m_Weights O.b_Weightsu_initu .nil passL (pa_cons (pv 5) pa_nil)) (nomark _))))) (pss_one (ps_ret pe_bl)) pss_nil)
  (C8.pss_cut (ps_for PassesOwn.never rfl (pi_range1 (by rfl) O.z_range (pa_cons pe_int pa_nil)) (pg_name (i := 7) sc_Lweights.nd rfl (Or.inl rfl)) (pss_cons (ps_set (i := 8) sc_Lweights.nd rfl (Or.inl rfl) (pe_call (ok_Lspoil T O) (hr.mono (by decide)) (by rfl) O.m_Lspoil O.F_Lspoil.kp O.b_Lspoil .nil pass0 (pa_cons (pv 0) (pa_cons (pv 2) pa_nil))))
  (pss_cons (ps_if (pt_cmpR (r := rNeD K) (op_neD hr.units) (pe_call (ok_Lmade T O) (hr.mono (by decide)) (by rfl) O.m_Lmade O.F_Lmade.kp O.b_Lmade .nil pass0 (pa_cons (pv 8) pa_nil)) (pe_call (ok_Lmade_due T O) (hr.mono (by decide)) (by rfl) O.m_Lmade_due O.F_Lmade_due.kp O.b_Lmade_due .nil pass0 (pa_cons (pv 8) pa_nil)) (nomark _)) (pss_one (ps_ret pe_bl)) pss_nil)
  (C8.pss_cut (ps_set (i := 9) sc_Lweights.nd rfl (Or.inl rfl) (pe_call (ok_Ldrawn T O) (hr.mono (by decide)) (by rfl) O.m_Ldrawn O.F_Ldrawn.kp O.b_Ldrawn .nil pass0 (pa_cons (pv 0) (pa_cons (pe_ifExp (pt_cmpR op_gt (pe_call (ok_Ldraw T O) (hr.mono (by decide)) (by rfl) O.m_Ldraw O.F_Ldraw.kp O.b_Ldraw .nil pass0 (pa_cons (pv 0) (pa_cons pe_int pa_nil))) pe_int (nomark _)) (pv 1) (pe_call (ok_Lshape T O) (hr.mono (by decide)) (by rfl) O.m_Lshape O.F_Lshape.kp O.b_Lshape .nil pass0 (pa_cons (pv 0) pa_nil))) pa_nil))))
  (pss_cons (ps_if (pt_cmpR (r := rNeD K) (op_neD hr.units) (pe_call (ok_Lplus T O) (hr.mono (by decide)) (by rfl) O.m_Lplus O.F_Lplus.kp O.b_Lplus .nil pass0 (pa_cons (pv 4) (pa_cons (pe_make (E := E0) O.k_Weights (ok_Weightsu_initu T O) (hr.mono (by decide)) (by rfl) O.m_Weights O.b_Weightsu_initu .nil passL (pa_cons (pv 9) pa_nil)) pa_nil))) (pe_call (ok_Ladded_due T O) (hr.mono (by decide)) (by rfl) O.m_Ladded_due O.F_Ladded_due.kp O.b_Ladded_due .nil pass0 (pa_cons (pv 2) (pa_cons (pv 9) pa_nil))) (nomark _)) (pss_one (ps_ret pe_bl)) pss_nil)
  (pss_cons (ps_if (PW.pt (pw_or (pt_cmpR op_ne (pe_cmpR (Jv.op_eqO (ok_Weightsu_equ T O) O.h_Weightsu_equ O.i_Weights_nt (hr.mono (by decide)) O.b_Weightsu_equ pass0) (pe_make (E := E0) O.k_Weights (ok_Weightsu_initu T O) (hr.mono (by decide)) (by rfl) O.m_Weights O.b_Weightsu_initu .nil passL (pa_cons (pv 9) pa_nil)) (pv 4) (nomark _)) (pe_cmpR (r := rEqD K) (op_eqD hr.units) (pe_call (ok_Ltuples T O) (hr.mono (by decide)) (by rfl) O.m_Ltuples O.F_Ltuples.kp O.b_Ltuples .nil pass0 (pa_cons (pv 9) pa_nil)) (pv 5) (nomark _)) (nomark _)) (pw_or1 (pt_cmpR (Jv.op_eqO (ok_Weightsu_equ T O) O.h_Weightsu_equ O.i_Weights_nt (hr.mono (by decide)) O.b_Weightsu_equ pass0) (pv 4) (pv 5) (nomark _))))) (pss_one (ps_ret pe_bl)) pss_nil)
  (C8.pss_cut (ps_set (i := 10) sc_Lweights.nd rfl (Or.inr rfl) (pe_ix (r := rIxL K) ix_list (pe_lst (pa_cons pe_int (pa_cons pe_int (pa_cons pe_int (pa_cons pe_int (pa_cons pe_int (pa_cons (pe_un un_neg pe_int) (pa_cons pe_bl (pa_cons pe_non (pa_cons (pe_call (ok_Ldraw T O) (hr.mono (by decide)) (by rfl) O.m_Ldraw O.F_Ldraw.kp O.b_Ldraw .nil pass0 (pa_cons (pv 0) (pa_cons pe_int pa_nil))) (pa_cons (pe_op op_pow pe_int pe_int) pa_nil))))))))))) (pe_call (ok_Ldraw T O) (hr.mono (by decide)) (by rfl) O.m_Ldraw O.F_Ldraw.kp O.b_Ldraw .nil pass0 (pa_cons (pv 0) (pa_cons pe_int pa_nil))) (fun _ _ => rfl)))
  (C8.pss_cut (ps_set (i := 11) sc_Lweights.nd rfl (Or.inl rfl) (pe_ifExp (pt_val (pe_call (ok_Lwhole T O) (hr.mono (by decide)) (by rfl) O.m_Lwhole O.F_Lwhole.kp O.b_Lwhole .nil pass0 (pa_cons (pv 10) pa_nil))) (pe_lc (own := [("_law_line", 17)]) (by rfl) sc_Lweights.nd (Jv.piOr (show PI _ _ _ (iList K _) from pi_list (pv 2)) (show PI _ _ _ (iTup K _) from pi_tup (pv 2))) (blkOk_by (own := [("_law_line", 17)]) (N := ["_law_hand_here", "_law_sides", "_law_lines", "_law_handed", "_law_weights_here", "_law_due_here", "_law_total", "_law_turn", "_law_spoilt", "_law_other", "_law_size", "_law_product", "_law_wanted", "_law_asked", "_law_at", "_law_each", "_law_right", "_law_line", "_law_weight", "_law_kind"]) (sc := defScope s_Lweights) (scope := ({ kind := .function, names := [(".0", .local), ("_law_line", .local), ("_law_size", .free)], isGenerator := false, isCoroutine := false } : Scope)) (by decide +kernel)) (fun _ _ _ _ _ => (pg_name (i := 17) sc_Lweights.nd rfl (Or.inl rfl))) (fun _ _ _ _ _ => pts_nil) (fun _ _ _ _ _ => (pe_lc (own := [("_law_weight", 18)]) (by rfl) sc_Lweights.nd (Jv.piOr (show PI _ _ _ (iList K _) from pi_list (pv 17)) (show PI _ _ _ (iTup K _) from pi_tup (pv 17))) (blkOk_by (own := [("_law_weight", 18)]) (N := ["_law_hand_here", "_law_sides", "_law_lines", "_law_handed", "_law_weights_here", "_law_due_here", "_law_total", "_law_turn", "_law_spoilt", "_law_other", "_law_size", "_law_product", "_law_wanted", "_law_asked", "_law_at", "_law_each", "_law_right", "_law_line", "_law_weight", "_law_kind"]) (sc := ({ kind := .function, names := [(".0", .local), ("_law_line", .local), ("_law_size", .cell)], isGenerator := false, isCoroutine := false } : Scope)) (scope := ({ kind := .function, names := [(".0", .local), ("_law_weight", .local), ("_law_size", .free)], isGenerator := false, isCoroutine := false } : Scope)) (by decide +kernel)) (fun _ _ _ _ _ => (pg_name (i := 18) sc_Lweights.nd rfl (Or.inl rfl))) (fun _ _ _ _ _ => pts_nil) (fun _ _ _ _ _ => (pe_op op_mul (pv 18) (pv 10)))))) (pe_lst pa_nil)))
  (C8.pss_cut (ps_set (i := 12) sc_Lweights.nd rfl (Or.inl rfl) (pe_ifExp (PW.pt (pw_and (pt_val (pe_call (ok_Lwhole T O) (hr.mono (by decide)) (by rfl) O.m_Lwhole O.F_Lwhole.kp O.b_Lwhole .nil pass0 (pa_cons (pv 10) pa_nil))) (pw_and1 (pt_chain op_le op_le pe_int (pv 10) pe_int)))) (pe_call (ok_Lmade_due T O) (hr.mono (by decide)) (by rfl) O.m_Lmade_due O.F_Lmade_due.kp O.b_Lmade_due .nil pass0 (pa_cons (pv 11) pa_nil)) pe_str))
  (pss_one (ps_if (pt_cmpR (r := rNeD K) (op_neD hr.units) (pe_call (ok_Ltimes T O) (hr.mono (by decide)) (by rfl) O.m_Ltimes O.F_Ltimes.kp O.b_Ltimes .nil pass0 (pa_cons (pv 4) (pa_cons (pv 10) pa_nil))) (pv 12) (nomark _)) (pss_one (ps_ret pe_bl)) pss_nil)))))))))))
  (pss_cons (ps_set (i := 13) sc_Lweights.nd rfl (Or.inl rfl) (pe_lst (pa_cons (pv 1) (pa_cons (pe_callTy (r := Jv.rListOf K) call_list_of (by rfl) O.z_list (by decide +kernel) (pa_cons (pv 1) pa_nil)) (pa_cons (pe_tup (pa_cons pe_int (pa_cons pe_int pa_nil))) (pa_cons (pe_tup (pa_cons pe_int (pa_cons pe_int pa_nil))) (pa_cons (pe_tup (pa_cons pe_int (pa_cons pe_int pa_nil))) (pa_cons (pe_tup (pa_cons pe_int (pa_cons pe_int (pa_cons pe_int pa_nil)))) (pa_cons pe_non (pa_cons (pe_tup (pa_cons pe_bl (pa_cons pe_int pa_nil))) (pa_cons pe_int pa_nil)))))))))))
  (pss_cons (ps_for PassesOwn.never rfl (Jv.piOr (show PI _ _ _ (iEnum K _) from pi_enum (by rfl) O.z_enumerate (pa_cons (pv 13) pa_nil)) (show PI _ _ _ (Jv.iEnT K _) from Jv.pi_enT (by rfl) O.z_enumerate (pa_cons (pv 13) pa_nil))) (pg_tup rfl (pgs_cons (pg_name (i := 14) sc_Lweights.nd rfl (Or.inl rfl)) (pgs_cons (pg_name (i := 15) sc_Lweights.nd rfl (Or.inl rfl)) pgs_nil))) (pss_cons (ps_set (i := 16) sc_Lweights.nd rfl (Or.inl rfl) (pe_cmpR op_lt (pv 14) pe_int (nomark _)))
  (pss_one (ps_if (pt_cmpR (r := rNeD K) (op_neD hr.units) (pe_call (ok_Leven T O) (hr.mono (by decide)) (by rfl) O.m_Leven O.F_Leven.kp O.b_Leven .nil pass0 (pa_cons (pv 15) pa_nil)) (pe_ifExp (pt_truth (pv 16) (by intro _; rfl)) (pe_callTy (r := Jv.rTupOf K) call_tuple_of (by rfl) O.z_tuple (by decide +kernel) (pa_cons (pe_lc (own := [("_law_kind", 19)]) (by rfl) sc_Lweights.nd (pi_range1 (by rfl) O.z_range (pa_cons (pe_ix (r := rIx K) ix_seq (pv 1) pe_int (fun _ _ => rfl)) pa_nil)) (blkOk_by (own := [("_law_kind", 19)]) (N := ["_law_hand_here", "_law_sides", "_law_lines", "_law_handed", "_law_weights_here", "_law_due_here", "_law_total", "_law_turn", "_law_spoilt", "_law_other", "_law_size", "_law_product", "_law_wanted", "_law_asked", "_law_at", "_law_each", "_law_right", "_law_line", "_law_weight", "_law_kind"]) (sc := defScope s_Lweights) (scope := ({ kind := .function, names := [(".0", .local), ("_law_kind", .local), ("_law_sides", .free)], isGenerator := false, isCoroutine := false } : Scope)) (by decide +kernel)) (fun _ _ _ _ _ => (pg_name (i := 19) sc_Lweights.nd rfl (Or.inl rfl))) (fun _ _ _ _ _ => pts_nil) (fun _ _ _ _ _ => (pe_op (show OpR _ _ (Jv.rRepA K) from Jv.op_repA) (pe_tup (pa_cons pe_int pa_nil)) (pe_ix (r := rIx K) ix_seq (pv 1) pe_int (fun _ _ => rfl))))) pa_nil)) pe_str) (nomark _)) (pss_one (ps_ret pe_bl)) pss_nil))))
  (pss_one (ps_ret (pe_call (ok_Lturned T O) (hr.mono (by decide)) (by rfl) O.m_Lturned O.F_Lturned.kp O.b_Lturned .nil pass0 (pa_cons (pv 0) (pa_cons (pv 4) (pa_cons (pv 2) pa_nil))))))))))))))), ?_⟩
  have p0 := gW.p0
  have p6 := gW.p6
  have q0 := gW.q0
  have q6 := gW.q6
  have lL := gW.hp
  walk_at "r"
  obtain ⟨ws, skW, alW⟩ := (hx.same Jv.hide_le).sk rfl
  have lws := alW.len
  rw [List.length_map] at lws
  refine Jv.lcNew2 (K := K) (j := 17) (i := 2) rfl skW (L.map rowL) (by rw [List.length_map]; omega) (by omega) (fun i v e D1 H6 hi hv he s6 hD1 ⟨_, hD6⟩ PP hP => ?_) (fun D AA H1 s1 ft fr => ?_)
  · obtain ⟨dl, c1, c2⟩ := alW.at hv
    obtain ⟨line, c3, rfl⟩ := mapAt c1
    rw [List.getElem?_map, c3] at he
    obtain rfl := Option.some.inj he
    obtain ⟨us, skU, alU⟩ := (c2.same s6).sk rfl
    obtain rfl := Jv.dv_intsV alU
    obtain ⟨A0, rfl, hA0⟩ := skU
    walk_at "r"
    exact Jv.r_listOf hA0 fun M hM => hP _ [M] _ (Jv.same_new hM) (.lst upd_same (Jv.FtAll.ints line) (fun m => nomatch m)) fun a m => by rw [List.mem_singleton.mp m]; exact hM
  walk_at "r"
  refine Jv.gen_make fun Q1 hQ1 => Jv.r_make0 ?_
  walk_at "r"
  refine mkW' (dw := linLw L) ft.dv (gW.good lineR_LL) fun b H2 s2 _ gb => hQ1 _ _ ?_
  have s02 := s1.trans s2
  have ft2 : Jv.Ft K H2 (.ref D) (.list (L.map rowL)) AA := ft.same s2
  cases ft2 with
  | lst eD fa nD =>
  rename_i xs A'
  have lx := fa.len
  rw [List.length_map, gW.hp] at lx
  obtain ⟨R, line, r1, r2, r3, r4, r8⟩ : ∃ R line, xs[0]? = some (.ref R) ∧ L[0]? = some line ∧ line.length = q ∧ H2 R = some (.lst (line.map V.int)) ∧ R ∈ A' := by
    have hx1 : xs[0]? = some xs[0] := List.getElem?_eq_getElem (by omega)
    obtain ⟨d, B, hd, ftv, sub, _⟩ := fa.chg hx1
    obtain ⟨line, hl, rfl⟩ := mapAt hd
    generalize xs[0] = v at hx1 ftv
    have ftv' : Jv.Ft K H2 v (.list (line.map .int)) B := ftv
    cases ftv' with
    | lst a b c =>
      rw [Jv.dv_intsV b.dv] at a
      exact ⟨_, line, hx1, hl, gW.hq line (List.mem_of_getElem? hl), a, sub _ List.mem_cons_self⟩
  have nR := fr R (List.mem_cons_of_mem _ r8)
  obtain ⟨nRh, nRl⟩ := hh.ne2 nR
  walk_at "r"
  refine Jv.r_ixL (Jv.sqL_at eD) (Jv.at_i (k := 0) (by decide) r1) ?_
  walk_at "r"
  refine ⟨R, line.map V.int, 0, 0, rfl, rfl, r4, Jv.ixN_of (by rw [List.length_map, r3]; exact Nat.lt_of_lt_of_le Nat.zero_lt_one q0), ?_⟩
  have kp3 : Jv.Kp h H (upd H2 R (.lst ((line.map V.int).set 0 .non))) := fun c o nc hc => by rw [upd_ne (ne_of_none hc nR)]; exact s02 _ _ hc
  have hh3 : Jv.Hand (upd H2 R (.lst ((line.map V.int).set 0 .non))) h hl := (hh.same s02).upd nRh nRl
  have gb3 : WAt K (upd H2 R (.lst ((line.map V.int).set 0 .non))) T.C_Weights b L p q := by
    have g1 := gb.hid (N := [R]) fun b m => by rw [List.mem_singleton.mp m]; exact ⟨_, r4⟩
    rw [← Jv.hide_upd (o := .lst ((line.map V.int).set 0 .non))] at g1
    exact g1.same Jv.hide_le
  have hx3 := hx.same kp3.hide
  have es3 := kp3 _ _ (hh.neT es) es
  generalize upd H2 R (.lst ((line.map V.int).set 0 .non)) = H3 at kp3 hh3 gb3 hx3 es3 ⊢
  clear hh es hx skW alW ft fr eD fa nD r4 gb s02 s1 s2 hQ1 Q1 nR
  walk_at "r"
  refine ⟨_, linLw L, L, rfl, hx3.same Jv.hide_le, lineR_LL, gW.few lineR_LL, fun rD H4 s4 dD => ?_⟩
  have wx : Wx K T.C_Weights h hl s b x rD L p q H4 := ⟨hh3.same s4, s4 _ _ es3, hx3.same (Jv.hide_same s4), gb3.same s4, dD⟩
  have kp4 := kp3.trans (Jv.Kp.same s4)
  clear hh3 es3 hx3 gb3 dD s4 kp3
  walk_at "r"
  refine ⟨fun σ H' => σ = [some (.ref h), some (.ref s), some x, some (.ref D), some (.ref b), some rD, some (.int (L.map List.sum).sum), none, none, none, none, none, none, none, none, none, none, none, none, none] ∧ Same H4 H', ?_, ?_⟩
  · walk_at "r"
    obtain ⟨ws, skW, alW⟩ := (wx.x.same Jv.hide_le).sk rfl
    refine Jv.lcS2 (K := K) (N := []) (j := 17) (i := 2) rfl skW .nil ((L.map List.sum).map .int) (by have := alW.len; rw [List.length_map] at this; rw [List.length_map, List.length_map]; omega) (by have := alW.len; rw [List.length_map] at this; omega) (fun i v e D1 H6 hi hv he s6 hN1 hD1 PP hP => ?_) (fun D1 ys H6 s6 hD1 eD1 dv1 _ => ?_)
    · obtain ⟨dl, c1, c2⟩ := alW.at hv
      obtain ⟨line, c3, rfl⟩ := mapAt c1
      have ee : e = .int line.sum := by
        rw [List.map_map, List.getElem?_map, c3] at he
        exact (Option.some.inj he).symm
      subst ee
      obtain ⟨us, skU, alU⟩ := (c2.same s6).sk rfl
      obtain rfl := Jv.dv_intsV alU
      walk_at "r"
      exact ⟨_, _, rfl, skU, hP _ _ (Same.refl _) (.int _)⟩
    · walk_at "r"
      rw [Jv.hide_nil] at dv1
      obtain rfl := Jv.dv_intsV dv1
      refine ⟨_, _, rfl, ⟨D1, rfl, .inl (Jv.sqL_at eD1)⟩, ?_⟩
      walk_at "r"
      exact ⟨rfl, s6⟩
  rintro σ H5 ⟨rfl, s5⟩
  have wx5 := wx.same s5
  have kp5 := kp4.trans (Jv.Kp.same s5)
  clear wx kp4 s5
  obtain ⟨dx, wv, tv, hcb, eW, eS⟩ := id wx5.b
  walk_at "r"
  refine Jv.r_fld ?_
  walk_at "r"
  refine ⟨b, _, dx, _, _, rfl, hcb, O.o_Weights, O.n_Weights_lines, rfl, ?_⟩
  walk_at "r"
  refine Jv.r_fld ?_
  walk_at "r"
  refine ⟨b, _, dx, _, _, rfl, hcb, O.o_Weights, O.n_Weights_sides, rfl, ?_⟩
  refine ⟨_, rfl, b, dx, _, rfl, hcb, b, L, p, q, rfl, wx5.b, gW, fun H6 s6 => ?_⟩
  walk_at "r"
  intro t1 ht1
  generalize e1 : upd H6 t1 _ = G1
  obtain ⟨n1, f1⟩ := Jv.new_of ht1 e1
  clear e1
  walk_at "r"
  intro t2 ht2
  generalize e2 : upd G1 t2 _ = G2
  obtain ⟨n2, f2⟩ := Jv.new_of ht2 e2
  clear e2
  have s52 := s6.trans (n1.trans n2)
  have wx6 := wx5.same s52
  refine Jv.ne_self (.tup (Jv.sqT_at (n2 _ _ f1)) (.cons (eW.same s52) (.cons (eS.same s52) (.cons (.int _) .nil)))) (.tup (Jv.sqT_at f2) (.cons wx6.d (.cons (.tup (Jv.sqT_at wx6.es) (.cons (.int _) (.cons (.int _) .nil))) (.cons (.int _) .nil)))) (shaped_facts _ _ _ _) ?_
  walk_at "r"
  refine Jv.gen_make fun Q1 hQ1 => Jv.r_make0 ?_
  walk_at "r"
  refine mkW' (dw := linW L) wx6.d (gW.good lineR_T) fun b2 H7 s7 _ gb2 => hQ1 _ _ ?_
  have wx7 := wx6.same s7
  have kp7 := (kp5.trans (Jv.Kp.same s52)).trans (Jv.Kp.same s7)
  obtain ⟨dy, wv2, tv2, hcb2, _⟩ := id gb2
  obtain ⟨dx7, wv7, tv7, hcb7, _⟩ := id wx7.b
  refine ⟨b, _, _, b2, rfl, rfl, hcb7, .inl ⟨_, _, hcb2⟩, ?_⟩
  refine ⟨b, b2, L, p, q, rfl, wx7.b, .inl ⟨L, p, q, gb2, ?_⟩⟩
  refine ⟨_, rfl, ?_⟩
  rw [decide_eq_true rfl]
  clear wx5 kp5 dx wv tv hcb eW eS s6 n1 f1 n2 f2 s52 wx6 s7 hcb2 hcb7 gb2 hQ1 Q1
  walk_at "r"
  refine ⟨fun σ H' => ∃ y7 y8 y9 y10 y11 y12, σ = [some (.ref h), some (.ref s), some x, some (.ref D), some (.ref b), some rD, some (.int (L.map List.sum).sum), y7, y8, y9, y10, y11, y12, none, none, none, none, none, none, none] ∧ Wx K T.C_Weights h hl s b x rD L p q H' ∧ Jv.Kp h H H', ?_, ?_⟩
  · walk_at "r"
    refine ⟨4, rfl, by decide, by decide, ?_⟩
    refine for_range (lo := 0) (n := 4) (fun i σ H' => ∃ y7 y8 y9 y10 y11 y12, σ = [some (.ref h), some (.ref s), some x, some (.ref D), some (.ref b), some rD, some (.int (L.map List.sum).sum), y7, y8, y9, y10, y11, y12, none, none, none, none, none, none, none] ∧ Wx K T.C_Weights h hl s b x rD L p q H' ∧ Jv.Kp h H H') ⟨_, _, _, _, _, _, rfl, wx7, kp7⟩ ?_ ?_
    case refine_2 =>
      rintro σ H8 ⟨y7, y8, y9, y10, y11, y12, rfl, wx8, kp8⟩
      exact ⟨_, _, _, _, _, _, rfl, wx8, kp8⟩
    rintro i σ H8 hi ⟨y7, y8, y9, y10, y11, y12, rfl, wx8, kp8⟩
    clear wx7 kp7
    walk_at "r"
    refine ⟨h, hl, x, L, p, q, rfl, wx8.hh, wx8.x, gW, fun v d H9 dv f2 kp9 hh9 => ?_⟩
    have wx9 := wx8.kp kp9 hh9
    have kp09 := kp8.trans kp9
    walk_at "r"
    refine ⟨v, d, rfl, dv.same Jv.hide_le, f2, fun r1 H10 s10 d10 => ?_⟩
    walk_at "r"
    refine ⟨v, d, rfl, (dv.same Jv.hide_le).same s10, f2, fun r2 H11 s11 d11 => ?_⟩
    walk_at "r"
    refine Jv.ne_self (d10.same s11) d11 (shaped_dueW _) ?_
    have wx11 := wx9.same (s10.trans s11)
    have kp11 := kp09.trans (Jv.Kp.same (s10.trans s11))
    clear wx8 kp8 wx9 kp09 dv d10 d11
    walk_at "r"
    refine ⟨fun σ H' => ∃ (r9 : V) (M : List (List Int)) (p2 q2 : Nat), σ = [some (.ref h), some (.ref s), some x, some (.ref D), some (.ref b), some rD, some (.int (L.map List.sum).sum), some (.int (0 + (i : Nat))), some v, some r9, y10, y11, y12, none, none, none, none, none, none, none] ∧ Wx K T.C_Weights h hl s b x rD L p q H' ∧ Jv.Kp h H H' ∧ Gw M p2 q2 ∧ Jv.Dv K (Jv.hide [h] H') r9 (linLw M), ?_, ?_⟩
    · walk_at "r"
      refine ⟨h, hl, 4, rfl, wx11.hh, ⟨by decide, Jv.log_small (by decide) (by decide)⟩, fun z H12 z0 z1 kp12 hh12 => ?_⟩
      have wx12 := wx11.kp kp12 hh12
      have kq12 := kp11.trans kp12
      walk_at "r"
      refine Jv.r_dec (fun c => ?_) (fun c => ?_)
      · walk_at "r"
        refine ⟨h, hl, s, p, q, rfl, wx12.hh, wx12.es, ⟨p0, p6⟩, ⟨q0, q6⟩, gW.pq, fun r9 M H13 gM kp13 hh13 dM => ?_⟩
        walk_at "r"
        exact ⟨r9, M, p, q, rfl, wx12.kp kp13 hh13, kq12.trans kp13, gM, dM⟩
      · walk_at "r"
        refine ⟨h, hl, rfl, wx12.hh, fun t p2 q2 H13 hp2 hq2 hpq2 et kp13 hh13 => ?_⟩
        have wx13 := wx12.kp kp13 hh13
        walk_at "r"
        refine ⟨h, hl, t, p2, q2, rfl, hh13, et, hp2, hq2, hpq2, fun r9 M H14 gM kp14 hh14 dM => ?_⟩
        walk_at "r"
        exact ⟨r9, M, p2, q2, rfl, wx13.kp kp14 hh14, (kq12.trans kp13).trans kp14, gM, dM⟩
    clear wx11 kp11
    rintro σ H12 ⟨r9, M, p2, q2, rfl, wx12, kp12, gM, dM⟩
    have few := gM.few (lineR_LL (L := M))
    walk_at "r"
    refine Jv.gen_make fun Q1 hQ1 => Jv.r_make0 ?_
    walk_at "r"
    refine mkW' (dM.same Jv.hide_le) (gM.good lineR_LL) fun b2 H13 s13 _ gb2 => hQ1 _ _ ?_
    have wx13 := wx12.same s13
    have dM13 := (dM.same Jv.hide_le).same s13
    walk_at "r"
    refine ⟨b, b2, L, M, p, q, p2, q2, rfl, wx13.b, gW, gb2, gM, fun r1 H14 s14 d14 => ?_⟩
    walk_at "r"
    refine ⟨x, r9, L, M, p, q, p2, q2, rfl, (wx13.x.same Jv.hide_le).same s14, gW, dM13.same s14, gM, fun r2 H15 s15 d15 => ?_⟩
    walk_at "r"
    refine Jv.ne_self (d14.same s15) d15 (shaped_plus _ _ _ _ _ _) ?_
    have s35 := s14.trans s15
    have wx15 := wx13.same s35
    have dM15 := dM13.same s35
    have kp15 := (kp12.trans (Jv.Kp.same s13)).trans (Jv.Kp.same s35)
    clear wx12 wx13 dM dM13 kp12 d14 d15 gb2 hQ1 Q1 s35 s15 s14 s13
    walk_at "r"
    refine Jv.gen_make fun Q1 hQ1 => Jv.r_make0 ?_
    walk_at "r"
    refine mkW' dM15 (gM.good lineR_LL) fun b3 H16 s16 _ gb3 => hQ1 _ _ ?_
    have wx16 := wx15.same s16
    obtain ⟨dy, wv2, tv2, hcb3, _⟩ := id gb3
    obtain ⟨dx7, wv7, tv7, hcb7, _⟩ := id wx16.b
    walk_at "r"
    refine ⟨b3, _, _, b, rfl, rfl, hcb3, .inl ⟨_, _, hcb7⟩, ?_⟩
    refine ⟨b3, b, M, p2, q2, rfl, gb3, .inl ⟨L, p, q, wx16.b, ?_⟩⟩
    refine ⟨_, rfl, ?_⟩
    walk_at "r"
    refine ⟨r9, linLw M, M, rfl, dM15.same s16, lineR_LL, few, fun r3 H17 s17 d17 => ?_⟩
    walk_at "r"
    refine ⟨linW M, linW L, d17.dp, (wx16.d.same s17).dp, shaped_linW _, shaped_linW _, ?_⟩
    rw [eqv_linW]
    walk_at "r"
    rw [decide_eq_true rfl]
    walk_at "r"
    have wx17 := wx16.same s17
    have kp17 := (kp15.trans (Jv.Kp.same s16)).trans (Jv.Kp.same s17)
    obtain ⟨tD, xD, eD, hD, alD⟩ := Jv.tup_of wx17.d
    subst eD
    obtain ⟨dx8, wv8, tv8, hcb8, _⟩ := id wx17.b
    refine ⟨b, _, _, tD, rfl, rfl, hcb8, .inr ⟨_, hD⟩, ?_⟩
    refine ⟨b, tD, L, p, q, rfl, wx17.b, .inr ⟨_, hD, ?_⟩⟩
    refine ⟨_, rfl, ?_⟩
    clear wx15 wx16 kp15 dM15 hcb3 hcb7 hcb8 gb3 d17 s17 s16 hQ1 Q1 hD alD
    walk_at "r"
    refine ⟨fun σ H' => ∃ (v10 : V) (d10 : PyData), σ = [some (.ref h), some (.ref s), some x, some (.ref D), some (.ref b), some (.ref tD), some (.int (L.map List.sum).sum), some (.int (0 + (i : Nat))), some v, some r9, some v10, y11, y12, none, none, none, none, none, none, none] ∧ Wx K T.C_Weights h hl s b x (.ref tD) L p q H' ∧ Jv.Kp h H H' ∧ Jv.Dv K H' v10 d10, ?_, ?_⟩
    · walk_at "r"
      refine ⟨h, hl, 1001, rfl, wx17.hh, ⟨by decide, Jv.log_small (by decide) (by decide)⟩, fun z H18 z0 z1 kp18 hh18 => ?_⟩
      have wx18 := wx17.kp kp18 hh18
      walk_at "r"
      intro t ht
      obtain ⟨nt, _⟩ := wx18.hh.ne2 ht
      generalize e1 : upd H18 t _ = G1
      obtain ⟨n1, f1⟩ := Jv.new_of ht e1
      clear e1
      have wx19 := wx18.same n1
      walk_at "r"
      refine ⟨h, hl, 10, rfl, wx19.hh, ⟨by decide, Jv.log_small (by decide) (by decide)⟩, fun y H20 y0 y1 kp20 hh20 => ?_⟩
      have wx20 := wx19.kp kp20 hh20
      have f20 := kp20 _ _ nt f1
      walk_at "r"
      show rIxL K (.ref t) (.int y) H20 _
      refine Jv.pickH (H2 := H20) (ds := [.int 0, .int 1, .int 2, .int 1000, .int 1001, .int (-1), .bool true, .none, .int z, .int (10 ^ Int.toNat 20)]) f20 (.cons (.int _) (.cons (.int _) (.cons (.int _) (.cons (.int _) (.cons (.int _) (.cons (.int _) (.cons (.bl _) (.cons .non (.cons (.int _) (.cons (.int _) .nil)))))))))) y0 y1 fun v10 d10 _ dv => ?_
      walk_at "r"
      exact ⟨v10, d10, rfl, wx20, ((kp17.trans kp18).trans (Jv.Kp.same n1)).trans kp20, dv⟩
    clear wx17 kp17
    rintro σ H18 ⟨v10, d10, rfl, wx18, kp18, dv⟩
    refine ⟨fun σ H' => ∃ (v11 : V), σ = [some (.ref h), some (.ref s), some x, some (.ref D), some (.ref b), some (.ref tD), some (.int (L.map List.sum).sum), some (.int (0 + (i : Nat))), some v, some r9, some v10, some v11, y12, none, none, none, none, none, none, none] ∧ Same H18 H' ∧ ∀ z, d10 = .int z → Jv.Dv K H' v11 (linLw (mulW z L)), ?_, ?_⟩
    · walk_at "r"
      refine ⟨_, d10, rfl, dv, ?_⟩
      by_cases hi : ∃ z, d10 = .int z
      · obtain ⟨z, rfl⟩ := hi
        cases dv
        obtain ⟨ws, skW, alW⟩ := (wx18.x.same Jv.hide_le).sk rfl
        have lws := alW.len
        rw [List.length_map] at lws
        walk_at "r"
        refine Jv.lcS2 (K := K) (N := []) (j := 17) (i := 2) rfl skW .nil ((mulW z L).map fun line => .list (line.map .int)) (by rw [List.length_map]; unfold mulW; rw [List.length_map]; omega) (by omega) (fun i v e D1 H6 hi hv he s6 hN1 hD1 PP hP => ?_) (fun D1 ys H6 s6 hD1 eD1 dv1 _ => ?_)
        · obtain ⟨dl, c1, c2⟩ := alW.at hv
          obtain ⟨line, c3, rfl⟩ := mapAt c1
          have hlm := List.mem_of_getElem? c3
          have hlq := gW.hq line hlm
          have ee : e = .list ((line.map (· * z)).map .int) := by
            unfold mulW at he
            rw [List.map_map, List.getElem?_map, c3] at he
            exact (Option.some.inj he).symm
          subst ee
          obtain ⟨us, skU, alU⟩ := (c2.same s6).sk rfl
          obtain rfl := Jv.dv_intsV alU
          walk_at "r"
          refine Jv.lcS2 (K := K) (N := [D1]) (j := 18) (i := 17) rfl skU hN1 ((line.map (· * z)).map .int) (by simp) (by rw [List.length_map]; omega) (fun i3 y e3 D3 H8 hi3 hy he3 s8 hN3 hD3 PP3 hP3 => ?_) (fun D3 ys3 H8 s8 hD3 eD3 dv3 _ => ?_)
          · obtain ⟨n, hn, rfl⟩ := Jv.map_at hy
            have ee3 : e3 = .int (n * z) := by
              rw [List.map_map, List.getElem?_map, hn] at he3
              exact (Option.some.inj he3).symm
            subst ee3
            have nb := gW.ent line hlm n (List.mem_of_getElem? hn)
            walk_at "r"
            exact hP3 _ _ (Same.refl _) (.int _)
          · exact hP _ _ s8 (.lst (Jv.hide_at (by
              intro m
              obtain ⟨o, ho⟩ := hN1 D3 m
              rw [hD3] at ho; cases ho) eD3) dv3)
        · rw [Jv.hide_nil] at dv1
          walk_at "r"
          exact ⟨.ref D1, rfl, s6, fun z' e => by cases e; exact .lst eD1 dv1⟩
      · have e2 : Jv.intD d10 = false := by
          cases d10 with
          | int z => exact absurd ⟨z, rfl⟩ hi
          | _ => rfl
        rw [e2]
        walk_at "r"
        intro t ht
        walk_at "r"
        exact ⟨_, rfl, Jv.same_new ht, fun z e => absurd ⟨z, e⟩ hi⟩
    rintro σ H6 ⟨v11, rfl, s6, dP⟩
    refine ⟨fun σ H' => ∃ (v12 : V), σ = [some (.ref h), some (.ref s), some x, some (.ref D), some (.ref b), some (.ref tD), some (.int (L.map List.sum).sum), some (.int (0 + (i : Nat))), some v, some r9, some v10, some v11, some v12, none, none, none, none, none, none, none] ∧ Same H18 H' ∧ Jv.Dv K H' v12 (timesD L d10), ?_, ?_⟩
    · walk_at "r"
      refine ⟨_, d10, rfl, dv.same s6, ?_⟩
      by_cases hi : ∃ z, d10 = .int z
      · obtain ⟨z, rfl⟩ := hi
        cases dv
        have dP := dP z rfl
        walk_at "r"
        refine Jv.r_dec (fun c0 => ?_) (fun c0 => ?_)
        · walk_at "r"
          refine Jv.r_dec (fun c1 => ?_) (fun c1 => ?_)
          · walk_at "r"
            refine ⟨_, linLw (mulW z L), rfl, dP, few_line (lineR_LL (L := mulW z L)) (by unfold mulW; rw [List.length_map]; omega) (fun line hm => ?_), fun r H7 s7 d7 => ?_⟩
            · obtain ⟨l0, h2, rfl⟩ := List.mem_map.mp hm
              rw [List.length_map, gW.hq l0 h2]; omega
            · walk_at "r"
              exact ⟨r, rfl, s6.trans s7, by rw [timesD_yes c0 c1]; exact d7⟩
          · walk_at "r"
            exact ⟨_, rfl, s6, by rw [show timesD L (.int z) = .str "size" from if_neg fun y => c1 y.2]; exact .str _⟩
        · walk_at "r"
          exact ⟨_, rfl, s6, by rw [show timesD L (.int z) = .str "size" from if_neg fun y => c0 y.1]; exact .str _⟩
      · have e2 : Jv.intD d10 = false := by
          cases d10 with
          | int z => exact absurd ⟨z, rfl⟩ hi
          | _ => rfl
        have e3 : timesD L d10 = .str "size" := by
          cases d10 with
          | int z => exact absurd ⟨z, rfl⟩ hi
          | _ => rfl
        rw [e2]
        walk_at "r"
        exact ⟨_, rfl, s6, by rw [e3]; exact .str _⟩
    rintro σ H19 ⟨v12, rfl, s19, d12⟩
    have wx19 := wx18.same s19
    walk_at "r"
    refine ⟨b, v10, d10, L, p, q, rfl, wx19.b, gW, dv.same s19, fun r H20 s20 d20 => ?_⟩
    walk_at "r"
    refine Jv.ne_self d20 (d12.same s20) (shaped_times _ _) ?_
    walk_at "r"
    exact ⟨_, _, _, _, _, _, rfl, wx19.same s20, (kp18.trans (Jv.Kp.same s19)).trans (Jv.Kp.same s20)⟩
  rintro σ H8 ⟨y7, y8, y9, y10, y11, y12, rfl, wx8, kp8⟩
  clear wx7 kp7
  walk_at "r"
  refine Jv.r_listOf (.inr (Jv.sqT_at wx8.es)) fun t1 h1 => ?_
  generalize e1 : upd H8 t1 _ = G1
  obtain ⟨n1, f1⟩ := Jv.new_of h1 e1
  clear e1 h1
  walk_at "r"
  intro t2 h2
  generalize e2 : upd G1 t2 _ = G2
  obtain ⟨n2, f2⟩ := Jv.new_of h2 e2
  clear e2 h2
  walk_at "r"
  intro t3 h3
  generalize e3 : upd G2 t3 _ = G3
  obtain ⟨n3, f3⟩ := Jv.new_of h3 e3
  clear e3 h3
  walk_at "r"
  intro t4 h4
  generalize e4 : upd G3 t4 _ = G4
  obtain ⟨n4, f4⟩ := Jv.new_of h4 e4
  clear e4 h4
  walk_at "r"
  intro t5 h5
  generalize e5 : upd G4 t5 _ = G5
  obtain ⟨n5, f5⟩ := Jv.new_of h5 e5
  clear e5 h5
  walk_at "r"
  intro t6 h6
  generalize e6 : upd G5 t6 _ = G6
  obtain ⟨n6, f6⟩ := Jv.new_of h6 e6
  clear e6 h6
  walk_at "r"
  intro t7 h7
  generalize e7 : upd G6 t7 _ = G7
  obtain ⟨n7, f7⟩ := Jv.new_of h7 e7
  clear e7 h7
  have s87 := n1.trans (n2.trans (n3.trans (n4.trans (n5.trans (n6.trans n7)))))
  have wx9 := wx8.same s87
  have al7 : Jv.DvAll K G7 [.ref s, .ref t1, .ref t2, .ref t3, .ref t4, .ref t5, .non, .ref t6, .int 2] [.tuple [.int p, .int q], .list [.int p, .int q], .tuple [.int 0, .int 1], .tuple [.int 7, .int 1], .tuple [.int 4, .int 4], .tuple [.int 1, .int 2, .int 3], .none, .tuple [.bool true, .int 1], .int 2] :=
    .cons (.tup (Jv.sqT_at wx9.es) (.cons (.int _) (.cons (.int _) .nil)))
    (.cons (.lst (n7 _ _ (n6 _ _ (n5 _ _ (n4 _ _ (n3 _ _ (n2 _ _ f1)))))) (.cons (.int _) (.cons (.int _) .nil)))
    (.cons (.tup (Jv.sqT_at (n7 _ _ (n6 _ _ (n5 _ _ (n4 _ _ (n3 _ _ f2)))))) (.cons (.int _) (.cons (.int _) .nil)))
    (.cons (.tup (Jv.sqT_at (n7 _ _ (n6 _ _ (n5 _ _ (n4 _ _ f3))))) (.cons (.int _) (.cons (.int _) .nil)))
    (.cons (.tup (Jv.sqT_at (n7 _ _ (n6 _ _ (n5 _ _ f4)))) (.cons (.int _) (.cons (.int _) .nil)))
    (.cons (.tup (Jv.sqT_at (n7 _ _ (n6 _ _ f5))) (.cons (.int _) (.cons (.int _) (.cons (.int _) .nil))))
    (.cons .non (.cons (.tup (Jv.sqT_at (n7 _ _ f6)) (.cons (.bl _) (.cons (.int _) .nil))) (.cons (.int _) .nil))))))))
  have kp9 := kp8.trans (Jv.Kp.same s87)
  clear wx8 kp8 n1 n2 n3 n4 n5 n6 n7 f1 f2 f3 f4 f5 f6 s87
  walk_at "r"
  refine Jv.for_en (i := 13) (H0 := G7) rfl ⟨t7, rfl, .inl (Jv.sqL_at f7)⟩ (Same.refl _) (fun j σ H' => ∃ y14 y15 y16, σ = [some (.ref h), some (.ref s), some x, some (.ref D), some (.ref b), some rD, some (.int (L.map List.sum).sum), y7, y8, y9, y10, y11, y12, some (.ref t7), y14, y15, y16, none, none, none] ∧ Same G7 H') ⟨_, _, _, rfl, Same.refl _⟩ (fun j σ' H' ⟨_, _, _, _, s⟩ => s) ?_ ?_
  · rintro j v T' σ H1 hv hT ⟨y14, y15, y16, rfl, s1⟩
    have nT := Jv.same_new (u := .tup [.int (j : Nat), v]) hT
    refine ⟨T', _, rfl, Jv.sqT_at upd_same, rfl, _, _, rfl, _, _, rfl, rfl, ?_⟩
    have sT := s1.trans nT
    generalize upd H1 T' (.tup [.int (j : Nat), v]) = H2 at sT ⊢
    have wx2 := wx9.same sT
    obtain ⟨d, hd, dv⟩ := al7.at hv
    have dv2 := dv.same sT
    have kind : (j < 2 ∧ Jv.seqD d = some [.int p, .int q] ∧ Jv.sidesD d = true) ∨ (¬ j < 2 ∧ Jv.sidesD d = false) := by
      match j, hd with
      | 0, hd => obtain rfl := Option.some.inj hd; exact .inl ⟨by decide, rfl, gW.sidesD⟩
      | 1, hd => obtain rfl := Option.some.inj hd; exact .inl ⟨by decide, rfl, gW.sidesD⟩
      | 2, hd => obtain rfl := Option.some.inj hd; exact .inr ⟨by decide, by decide⟩
      | 3, hd => obtain rfl := Option.some.inj hd; exact .inr ⟨by decide, by decide⟩
      | 4, hd => obtain rfl := Option.some.inj hd; exact .inr ⟨by decide, by decide⟩
      | 5, hd => obtain rfl := Option.some.inj hd; exact .inr ⟨by decide, by decide⟩
      | 6, hd => obtain rfl := Option.some.inj hd; exact .inr ⟨by decide, by decide⟩
      | 7, hd => obtain rfl := Option.some.inj hd; exact .inr ⟨by decide, by decide⟩
      | 8, hd => obtain rfl := Option.some.inj hd; exact .inr ⟨by decide, by decide⟩
      | n + 9, hd => simp at hd
    walk_at "r"
    refine ⟨v, d, rfl, dv2, fun hs H3 s3 => ?_, fun p' q' ed es' r3 H3 s3 d3 => ?_⟩
    · rcases kind with ⟨_, _, ht⟩ | ⟨nj, _⟩
      · rw [ht] at hs; cases hs
      have e0 : decide ((j : Int) < 2) = false := decide_eq_false (by omega)
      rw [e0]
      walk_at "r"
      refine ⟨false, rfl, ?_⟩
      walk_at "r"
      refine Jv.ne_self (.str _) (.str _) (by decide +kernel) ?_
      walk_at "r"
      exact ⟨_, _, _, rfl, sT.trans s3⟩
    · rcases kind with ⟨jl, ed2, _⟩ | ⟨_, hf⟩
      case inr => rw [hf] at es'; cases es'
      rw [ed2] at ed
      cases ed
      have e0 : decide ((j : Int) < 2) = true := decide_eq_true (by omega)
      rw [e0]
      walk_at "r"
      refine ⟨true, rfl, ?_⟩
      have wx3 := wx2.same s3
      walk_at "r"
      have skS : ∀ G, Same H3 G → Jv.Sk K G (.ref s) [.int p, .int q] := fun G sG => ⟨s, rfl, .inr (Jv.sqT_at (sG _ _ wx3.es))⟩
      refine lcRn (K := K) (n := p) (fun P hP => ?_) (List.replicate p (rowW (List.replicate q 1))) List.length_replicate (by omega) (fun i e D4 H4 hi he s4 hN hD P hP => ?_) (fun D4 ys H4 s4 hD eD alD => ?_)
      · walk_at "r"
        refine (skS _ (Same.refl _)).ix (Jv.at_i (k := 0) (by decide) rfl) ?_
        walk_at "r"
        exact hP
      · have ee : e = rowW (List.replicate q 1) := List.eq_of_mem_replicate (List.mem_of_getElem? he)
        subst ee
        walk_at "r"
        intro t8 h8
        generalize e8 : upd H4 t8 _ = G8
        obtain ⟨n8, f8⟩ := Jv.new_of h8 e8
        clear e8
        walk_at "r"
        refine (skS _ (s4.trans n8)).ix (Jv.at_i (k := 1) (by decide) rfl) ?_
        walk_at "r"
        have at8 : Jv.hide [D4] G8 t8 = some (.tup [.int 1]) := Jv.hide_at (hN.new h8) f8
        rcases Nat.lt_or_ge 1 q with q2 | q2
        · refine .inr ⟨t8, q, [.int 1], rfl, rfl, Jv.sqT_at f8, by simp, by omega, by omega, by simp, fun t9 h9 => ?_⟩
          have n9 := Jv.same_new (u := .tup (List.replicate ((q : Nat) : Int).toNat [V.int 1]).flatten) h9
          refine hP _ _ (n8.trans n9) (.tup (Jv.sqT_at (Jv.hide_at ((hN.same n8).new h9) upd_same)) ?_)
          rw [Jv.flat_one', Int.toNat_natCast, List.map_replicate]
          exact Jv.DvAll.rep (.int 1) q
        · have e1 : q = 1 := by omega
          subst e1
          refine .inl ⟨t8, [.int 1], rfl, rfl, Jv.sqT_at f8, hP _ _ n8 (.tup (Jv.sqT_at at8) (.cons (.int 1) .nil))⟩
      · walk_at "r"
        refine Jv.r_tupOfL (Jv.sqL_at eD) fun t9 h9 => ?_
        have n9 := Jv.same_new (u := .tup ys) h9
        have dT : Jv.Dv K (upd H4 t9 (.tup ys)) (.ref t9) (linW (List.replicate p (List.replicate q 1))) := .tup (Jv.sqT_at upd_same) (by rw [List.map_replicate]; exact alD.same n9)
        refine Jv.ne_self (d3.same (s4.trans n9)) dT (shaped_linW _) ?_
        walk_at "r"
        exact ⟨_, _, _, rfl, sT.trans (s3.trans (s4.trans n9))⟩
  · rintro σ H1 ⟨y14, y15, y16, rfl, s1⟩
    have wx2 := wx9.same s1
    walk_at "r"
    refine ⟨h, hl, b, x, L, p, q, rfl, wx2.hh, wx2.b.hid wx2.hh.lst, wx2.x, gW, fun H3 kp3 hh3 => ?_⟩
    walk_at "r"
    exact k H3 ((kp9.trans (Jv.Kp.same s1)).trans kp3) hh3
end
end K50

namespace K50
open PySem PySem.Spec PyProof.Rows L2
/-! ### the law -/
def sp_Lcase : Sp := fun vs H Q _ => ∃ h hl, vs = [.ref h] ∧ Jv.Hand H h hl ∧ ∀ H', Q (.bl true) H'
def sp_law (K : PySem.W.Frag) : Sp := fun vs H Q _ => ∃ (a : Addr) (ns : List Int), vs = [.ref a] ∧ SqL K H a (ns.map V.int) ∧ ns.length ≤ 63 ∧ ∀ H', Q (.bl true) H'
section
variable {P : Program} {w : World} {K : PySem.W.Frag} {mg : Str → Option Value} {base : Heap}
theorem ok_Lcase (T : Tx) (O : Ok K mg T) : FnOk P w K mg base CX0 9 T.f_Lcase T.d_Lcase ["_law_hand_here"] sp_Lcase := by
  refine O.F_Lcase.ok sc_Lcase (fun vs H Q E h => by obtain ⟨_, _, rfl, _⟩ := h; rfl) (fun cdv A outer s H vs Q E hr h => ?_)
  obtain ⟨h, hl, rfl, hh, k⟩ := h
  refine ⟨_, (pss_cons (ps_set (i := 1) sc_Lcase.nd rfl (Or.inl rfl) (pe_call (ok_Lshape T O) (hr.mono (by decide)) (by rfl) O.m_Lshape O.F_Lshape.kp O.b_Lshape .nil pass0 (pa_cons (pv 0) pa_nil)))
  (pss_cons (ps_set (i := 2) sc_Lcase.nd rfl (Or.inl rfl) (pe_call (ok_Ldrawn T O) (hr.mono (by decide)) (by rfl) O.m_Ldrawn O.F_Ldrawn.kp O.b_Ldrawn .nil pass0 (pa_cons (pv 0) (pa_cons (pv 1) pa_nil))))
  (pss_one (ps_ret (pe_and (pe_call (ok_Lweights T O) (hr.mono (by decide)) (by rfl) O.m_Lweights O.F_Lweights.kp O.b_Lweights .nil pass0 (pa_cons (pv 0) (pa_cons (pv 1) (pa_cons (pv 2) pa_nil)))) (pe_one (pe_call (ok_Lgoals T O) (hr.mono (by decide)) (by rfl) O.m_Lgoals O.F_Lgoals.kp O.b_Lgoals .nil pass0 (pa_cons (pv 0) (pa_cons (pv 1) (pa_cons (pv 2) pa_nil)))))))))), ?_⟩
  walk_at "r"
  refine ⟨h, hl, rfl, hh, fun t p q H1 hp hq hpq et kp1 hh1 => ?_⟩
  walk_at "r"
  refine ⟨h, hl, t, p, q, rfl, hh1, et, hp, hq, hpq, fun r L H2 gL kp2 hh2 dL => ?_⟩
  have et2 := kp2 _ _ (hh1.neT et) et
  walk_at "r"
  refine ⟨h, hl, t, r, L, p, q, rfl, hh2, et2, dL, gL, fun H3 kp3 hh3 => ?_⟩
  walk_at "r"
  refine ⟨h, hl, t, r, L, p, q, rfl, hh3, kp3 _ _ (hh2.neT et2) et2, dL.same kp3.hide, gL, fun H4 => ?_⟩
  exact k H4
theorem ok_law (T : Tx) (O : Ok K mg T) : FnOk P w K mg base CX0 10 T.f_law T.d_law ["_law_script"] (sp_law K) := by
  refine O.F_law.ok sc_law (fun vs H Q E h => by obtain ⟨_, _, rfl, _⟩ := h; rfl) (fun cdv A outer s H vs Q E hr h => ?_)
  obtain ⟨a, ns, rfl, hs, hn, k⟩ := h
  refine ⟨_, (pss_one (ps_ret (pe_call (ok_Lcase T O) (hr.mono (by decide)) (by rfl) O.m_Lcase O.F_Lcase.kp O.b_Lcase .nil pass0 (pa_cons (pe_call (ok_Lhand T O) (hr.mono (by decide)) (by rfl) O.m_Lhand O.F_Lhand.kp O.b_Lhand .nil pass0 (pa_cons (pv 0) pa_nil)) pa_nil)))), ?_⟩
  walk_at "r"
  refine ⟨a, ns, rfl, hs, hn, fun p l H1 s1 hp hh => ?_⟩
  walk_at "r"
  refine ⟨p, l, rfl, hh, fun H2 => ?_⟩
  exact k H2
end
end K50

namespace K50
open PySem PySem.Spec PyProof.Rows L2
theorem all_mk {P : Program} {w : World} {fa : Addr} {K : PySem.W.Frag} {h : Heap} {mg : Str → Option Value} (X : K.In h) (G : h.Ns mainGlobals mg) (hfa : mg "law" = some (.ref fa))
  {C_CallError : Addr}
  {C_BadGoals : Addr}
  {C_BadLot : Addr}
  {C_BadSide : Addr}
  {C_NotAlike : Addr}
  {C_BadCosts : Addr}
  {C_BadWeights : Addr}
  {C_Goals : Addr}
  {C_Costs : Addr}
  {C_Weights : Addr}
  {f_BadGoalsu_initu : Addr} {od_BadGoalsu_initu an_BadGoalsu_initu : Option Addr} {sl_BadGoalsu_initu : Array (Option Value)} {oc_BadGoalsu_initu kV_BadGoalsu_initu dc_BadGoalsu_initu pm_BadGoalsu_initu cd_BadGoalsu_initu ct_BadGoalsu_initu : Value}
  {f_BadLotu_initu : Addr} {od_BadLotu_initu an_BadLotu_initu : Option Addr} {sl_BadLotu_initu : Array (Option Value)} {oc_BadLotu_initu kV_BadLotu_initu dc_BadLotu_initu pm_BadLotu_initu cd_BadLotu_initu ct_BadLotu_initu : Value}
  {f_NotAlikeu_initu : Addr} {od_NotAlikeu_initu an_NotAlikeu_initu : Option Addr} {sl_NotAlikeu_initu : Array (Option Value)} {oc_NotAlikeu_initu kV_NotAlikeu_initu dc_NotAlikeu_initu pm_NotAlikeu_initu cd_NotAlikeu_initu ct_NotAlikeu_initu : Value}
  {f_BadCostsu_initu : Addr} {od_BadCostsu_initu an_BadCostsu_initu : Option Addr} {sl_BadCostsu_initu : Array (Option Value)} {oc_BadCostsu_initu kV_BadCostsu_initu dc_BadCostsu_initu pm_BadCostsu_initu cd_BadCostsu_initu ct_BadCostsu_initu : Value}
  {f_BadWeightsu_initu : Addr} {od_BadWeightsu_initu an_BadWeightsu_initu : Option Addr} {sl_BadWeightsu_initu : Array (Option Value)} {oc_BadWeightsu_initu kV_BadWeightsu_initu dc_BadWeightsu_initu pm_BadWeightsu_initu cd_BadWeightsu_initu ct_BadWeightsu_initu : Value}
  {f_is_whole : Addr} {od_is_whole an_is_whole : Option Addr} {sl_is_whole : Array (Option Value)} {oc_is_whole kV_is_whole dc_is_whole pm_is_whole cd_is_whole ct_is_whole : Value}
  {q_is_whole : Addr} {qc_is_whole : Value} {qd_is_whole : Option Addr} {qs_is_whole : Array (Option Value)} {qn_is_whole : Nat}
  {f_is_truth : Addr} {od_is_truth an_is_truth : Option Addr} {sl_is_truth : Array (Option Value)} {oc_is_truth kV_is_truth dc_is_truth pm_is_truth cd_is_truth ct_is_truth : Value}
  {f_is_sequence : Addr} {od_is_sequence an_is_sequence : Option Addr} {sl_is_sequence : Array (Option Value)} {oc_is_sequence kV_is_sequence dc_is_sequence pm_is_sequence cd_is_sequence ct_is_sequence : Value}
  {f_check_side : Addr} {od_check_side an_check_side : Option Addr} {sl_check_side : Array (Option Value)} {oc_check_side kV_check_side dc_check_side pm_check_side cd_check_side ct_check_side : Value}
  {f_are_sides : Addr} {od_are_sides an_are_sides : Option Addr} {sl_are_sides : Array (Option Value)} {oc_are_sides kV_are_sides dc_are_sides pm_are_sides cd_are_sides ct_are_sides : Value}
  {f_couples_of : Addr} {od_couples_of an_couples_of : Option Addr} {sl_couples_of : Array (Option Value)} {oc_couples_of kV_couples_of dc_couples_of pm_couples_of cd_couples_of ct_couples_of : Value}
  {f_are_kinds : Addr} {od_are_kinds an_are_kinds : Option Addr} {sl_are_kinds : Array (Option Value)} {oc_are_kinds kV_are_kinds dc_are_kinds pm_are_kinds cd_are_kinds ct_are_kinds : Value}
  {f_is_order : Addr} {od_is_order an_is_order : Option Addr} {sl_is_order : Array (Option Value)} {oc_is_order kV_is_order dc_is_order pm_is_order cd_is_order ct_is_order : Value}
  {f_check_side_order : Addr} {od_check_side_order an_check_side_order : Option Addr} {sl_check_side_order : Array (Option Value)} {oc_check_side_order kV_check_side_order dc_check_side_order pm_check_side_order cd_check_side_order ct_check_side_order : Value}
  {f_sides_of_lines : Addr} {od_sides_of_lines an_sides_of_lines : Option Addr} {sl_sides_of_lines : Array (Option Value)} {oc_sides_of_lines kV_sides_of_lines dc_sides_of_lines pm_sides_of_lines cd_sides_of_lines ct_sides_of_lines : Value}
  {f_renumbered_lines : Addr} {od_renumbered_lines an_renumbered_lines : Option Addr} {sl_renumbered_lines : Array (Option Value)} {oc_renumbered_lines kV_renumbered_lines dc_renumbered_lines pm_renumbered_lines cd_renumbered_lines ct_renumbered_lines : Value}
  {f_are_ends : Addr} {od_are_ends an_are_ends : Option Addr} {sl_are_ends : Array (Option Value)} {oc_are_ends kV_are_ends dc_are_ends pm_are_ends cd_are_ends ct_are_ends : Value}
  {f_is_knowing : Addr} {od_is_knowing an_is_knowing : Option Addr} {sl_is_knowing : Array (Option Value)} {oc_is_knowing kV_is_knowing dc_is_knowing pm_is_knowing cd_is_knowing ct_is_knowing : Value}
  {f_Goalsu_initu : Addr} {od_Goalsu_initu an_Goalsu_initu : Option Addr} {sl_Goalsu_initu : Array (Option Value)} {oc_Goalsu_initu kV_Goalsu_initu dc_Goalsu_initu pm_Goalsu_initu cd_Goalsu_initu ct_Goalsu_initu : Value}
  {q_Goalsu_initu : Addr} {qc_Goalsu_initu : Value} {qd_Goalsu_initu : Option Addr} {qs_Goalsu_initu : Array (Option Value)} {qn_Goalsu_initu : Nat}
  {w0_Goalsu_initu : Addr} {wd0_Goalsu_initu : Option Addr} {wn0_Goalsu_initu : Nat} {ws0_Goalsu_initu : Array (Option Value)}
  {f_Goalsu_equ : Addr} {od_Goalsu_equ an_Goalsu_equ : Option Addr} {sl_Goalsu_equ : Array (Option Value)} {oc_Goalsu_equ kV_Goalsu_equ dc_Goalsu_equ pm_Goalsu_equ cd_Goalsu_equ ct_Goalsu_equ : Value}
  {f_Goals_renumbered : Addr} {od_Goals_renumbered an_Goals_renumbered : Option Addr} {sl_Goals_renumbered : Array (Option Value)} {oc_Goals_renumbered kV_Goals_renumbered dc_Goals_renumbered pm_Goals_renumbered cd_Goals_renumbered ct_Goals_renumbered : Value}
  {f_is_entry : Addr} {od_is_entry an_is_entry : Option Addr} {sl_is_entry : Array (Option Value)} {oc_is_entry kV_is_entry dc_is_entry pm_is_entry cd_is_entry ct_is_entry : Value}
  {f_Costsu_initu : Addr} {od_Costsu_initu an_Costsu_initu : Option Addr} {sl_Costsu_initu : Array (Option Value)} {oc_Costsu_initu kV_Costsu_initu dc_Costsu_initu pm_Costsu_initu cd_Costsu_initu ct_Costsu_initu : Value}
  {f_Costsu_equ : Addr} {od_Costsu_equ an_Costsu_equ : Option Addr} {sl_Costsu_equ : Array (Option Value)} {oc_Costsu_equ kV_Costsu_equ dc_Costsu_equ pm_Costsu_equ cd_Costsu_equ ct_Costsu_equ : Value}
  {f_Costs_added : Addr} {od_Costs_added an_Costs_added : Option Addr} {sl_Costs_added : Array (Option Value)} {oc_Costs_added kV_Costs_added dc_Costs_added pm_Costs_added cd_Costs_added ct_Costs_added : Value}
  {f_Costs_renumbered : Addr} {od_Costs_renumbered an_Costs_renumbered : Option Addr} {sl_Costs_renumbered : Array (Option Value)} {oc_Costs_renumbered kV_Costs_renumbered dc_Costs_renumbered pm_Costs_renumbered cd_Costs_renumbered ct_Costs_renumbered : Value}
  {f_Weightsu_initu : Addr} {od_Weightsu_initu an_Weightsu_initu : Option Addr} {sl_Weightsu_initu : Array (Option Value)} {oc_Weightsu_initu kV_Weightsu_initu dc_Weightsu_initu pm_Weightsu_initu cd_Weightsu_initu ct_Weightsu_initu : Value}
  {f_Weightsu_equ : Addr} {od_Weightsu_equ an_Weightsu_equ : Option Addr} {sl_Weightsu_equ : Array (Option Value)} {oc_Weightsu_equ kV_Weightsu_equ dc_Weightsu_equ pm_Weightsu_equ cd_Weightsu_equ ct_Weightsu_equ : Value}
  {f_Weights_weight_sum : Addr} {od_Weights_weight_sum an_Weights_weight_sum : Option Addr} {sl_Weights_weight_sum : Array (Option Value)} {oc_Weights_weight_sum kV_Weights_weight_sum dc_Weights_weight_sum pm_Weights_weight_sum cd_Weights_weight_sum ct_Weights_weight_sum : Value}
  {p_Weights_weight_sum : Addr} {rs_Weights_weight_sum : List Value}
  {f_Weights_even : Addr} {od_Weights_even an_Weights_even : Option Addr} {sl_Weights_even : Array (Option Value)} {oc_Weights_even kV_Weights_even dc_Weights_even pm_Weights_even cd_Weights_even ct_Weights_even : Value}
  {p_Weights_even : Addr} {rs_Weights_even : List Value}
  {f_Weights_plus : Addr} {od_Weights_plus an_Weights_plus : Option Addr} {sl_Weights_plus : Array (Option Value)} {oc_Weights_plus kV_Weights_plus dc_Weights_plus pm_Weights_plus cd_Weights_plus ct_Weights_plus : Value}
  {f_Weights_times : Addr} {od_Weights_times an_Weights_times : Option Addr} {sl_Weights_times : Array (Option Value)} {oc_Weights_times kV_Weights_times dc_Weights_times pm_Weights_times cd_Weights_times ct_Weights_times : Value}
  {f_Weights_renumbered : Addr} {od_Weights_renumbered an_Weights_renumbered : Option Addr} {sl_Weights_renumbered : Array (Option Value)} {oc_Weights_renumbered kV_Weights_renumbered dc_Weights_renumbered pm_Weights_renumbered cd_Weights_renumbered ct_Weights_renumbered : Value}
  {f_check_weights : Addr} {od_check_weights an_check_weights : Option Addr} {sl_check_weights : Array (Option Value)} {oc_check_weights kV_check_weights dc_check_weights pm_check_weights cd_check_weights ct_check_weights : Value}
  {f_ends_up_to : Addr} {od_ends_up_to an_ends_up_to : Option Addr} {sl_ends_up_to : Array (Option Value)} {oc_ends_up_to kV_ends_up_to dc_ends_up_to pm_ends_up_to cd_ends_up_to ct_ends_up_to : Value}
  {f_floor_of : Addr} {od_floor_of an_floor_of : Option Addr} {sl_floor_of : Array (Option Value)} {oc_floor_of kV_floor_of dc_floor_of pm_floor_of cd_floor_of ct_floor_of : Value}
  {f_cheapest_goals : Addr} {od_cheapest_goals an_cheapest_goals : Option Addr} {sl_cheapest_goals : Array (Option Value)} {oc_cheapest_goals kV_cheapest_goals dc_cheapest_goals pm_cheapest_goals cd_cheapest_goals ct_cheapest_goals : Value}
  {f_as_goals : Addr} {od_as_goals an_as_goals : Option Addr} {sl_as_goals : Array (Option Value)} {oc_as_goals kV_as_goals dc_as_goals pm_as_goals cd_as_goals ct_as_goals : Value}
  {f_Lmix : Addr} {od_Lmix an_Lmix : Option Addr} {sl_Lmix : Array (Option Value)} {oc_Lmix kV_Lmix dc_Lmix pm_Lmix cd_Lmix ct_Lmix : Value}
  {f_Lhand : Addr} {od_Lhand an_Lhand : Option Addr} {sl_Lhand : Array (Option Value)} {oc_Lhand kV_Lhand dc_Lhand pm_Lhand cd_Lhand ct_Lhand : Value}
  {f_Ldraw : Addr} {od_Ldraw an_Ldraw : Option Addr} {sl_Ldraw : Array (Option Value)} {oc_Ldraw kV_Ldraw dc_Ldraw pm_Ldraw cd_Ldraw ct_Ldraw : Value}
  {f_Lwhole : Addr} {od_Lwhole an_Lwhole : Option Addr} {sl_Lwhole : Array (Option Value)} {oc_Lwhole kV_Lwhole dc_Lwhole pm_Lwhole cd_Lwhole ct_Lwhole : Value}
  {f_Lshape : Addr} {od_Lshape an_Lshape : Option Addr} {sl_Lshape : Array (Option Value)} {oc_Lshape kV_Lshape dc_Lshape pm_Lshape cd_Lshape ct_Lshape : Value}
  {f_Ldrawn : Addr} {od_Ldrawn an_Ldrawn : Option Addr} {sl_Ldrawn : Array (Option Value)} {oc_Ldrawn kV_Ldrawn dc_Ldrawn pm_Ldrawn cd_Ldrawn ct_Ldrawn : Value}
  {f_Ltuples : Addr} {od_Ltuples an_Ltuples : Option Addr} {sl_Ltuples : Array (Option Value)} {oc_Ltuples kV_Ltuples dc_Ltuples pm_Ltuples cd_Ltuples ct_Ltuples : Value}
  {f_Ldue : Addr} {od_Ldue an_Ldue : Option Addr} {sl_Ldue : Array (Option Value)} {oc_Ldue kV_Ldue dc_Ldue pm_Ldue cd_Ldue ct_Ldue : Value}
  {f_Lmade : Addr} {od_Lmade an_Lmade : Option Addr} {sl_Lmade : Array (Option Value)} {oc_Lmade kV_Lmade dc_Lmade pm_Lmade cd_Lmade ct_Lmade : Value}
  {f_Lmade_due : Addr} {od_Lmade_due an_Lmade_due : Option Addr} {sl_Lmade_due : Array (Option Value)} {oc_Lmade_due kV_Lmade_due dc_Lmade_due pm_Lmade_due cd_Lmade_due ct_Lmade_due : Value}
  {f_Lspoil : Addr} {od_Lspoil an_Lspoil : Option Addr} {sl_Lspoil : Array (Option Value)} {oc_Lspoil kV_Lspoil dc_Lspoil pm_Lspoil cd_Lspoil ct_Lspoil : Value}
  {f_Lplus : Addr} {od_Lplus an_Lplus : Option Addr} {sl_Lplus : Array (Option Value)} {oc_Lplus kV_Lplus dc_Lplus pm_Lplus cd_Lplus ct_Lplus : Value}
  {f_Ltimes : Addr} {od_Ltimes an_Ltimes : Option Addr} {sl_Ltimes : Array (Option Value)} {oc_Ltimes kV_Ltimes dc_Ltimes pm_Ltimes cd_Ltimes ct_Ltimes : Value}
  {f_Leven : Addr} {od_Leven an_Leven : Option Addr} {sl_Leven : Array (Option Value)} {oc_Leven kV_Leven dc_Leven pm_Leven cd_Leven ct_Leven : Value}
  {f_Lrenumbered : Addr} {od_Lrenumbered an_Lrenumbered : Option Addr} {sl_Lrenumbered : Array (Option Value)} {oc_Lrenumbered kV_Lrenumbered dc_Lrenumbered pm_Lrenumbered cd_Lrenumbered ct_Lrenumbered : Value}
  {f_Ladded_due : Addr} {od_Ladded_due an_Ladded_due : Option Addr} {sl_Ladded_due : Array (Option Value)} {oc_Ladded_due kV_Ladded_due dc_Ladded_due pm_Ladded_due cd_Ladded_due ct_Ladded_due : Value}
  {f_Lorder : Addr} {od_Lorder an_Lorder : Option Addr} {sl_Lorder : Array (Option Value)} {oc_Lorder kV_Lorder dc_Lorder pm_Lorder cd_Lorder ct_Lorder : Value}
  {f_Lweights : Addr} {od_Lweights an_Lweights : Option Addr} {sl_Lweights : Array (Option Value)} {oc_Lweights kV_Lweights dc_Lweights pm_Lweights cd_Lweights ct_Lweights : Value}
  {f_Lturned : Addr} {od_Lturned an_Lturned : Option Addr} {sl_Lturned : Array (Option Value)} {oc_Lturned kV_Lturned dc_Lturned pm_Lturned cd_Lturned ct_Lturned : Value}
  {f_Lcosts : Addr} {od_Lcosts an_Lcosts : Option Addr} {sl_Lcosts : Array (Option Value)} {oc_Lcosts kV_Lcosts dc_Lcosts pm_Lcosts cd_Lcosts ct_Lcosts : Value}
  {f_Lup_to : Addr} {od_Lup_to an_Lup_to : Option Addr} {sl_Lup_to : Array (Option Value)} {oc_Lup_to kV_Lup_to dc_Lup_to pm_Lup_to cd_Lup_to ct_Lup_to : Value}
  {f_Las_goals : Addr} {od_Las_goals an_Las_goals : Option Addr} {sl_Las_goals : Array (Option Value)} {oc_Las_goals kV_Las_goals dc_Las_goals pm_Las_goals cd_Las_goals ct_Las_goals : Value}
  {f_Lgoals : Addr} {od_Lgoals an_Lgoals : Option Addr} {sl_Lgoals : Array (Option Value)} {oc_Lgoals kV_Lgoals dc_Lgoals pm_Lgoals cd_Lgoals ct_Lgoals : Value}
  {f_Lunlike : Addr} {od_Lunlike an_Lunlike : Option Addr} {sl_Lunlike : Array (Option Value)} {oc_Lunlike kV_Lunlike dc_Lunlike pm_Lunlike cd_Lunlike ct_Lunlike : Value}
  {f_Lcase : Addr} {od_Lcase an_Lcase : Option Addr} {sl_Lcase : Array (Option Value)} {oc_Lcase kV_Lcase dc_Lcase pm_Lcase cd_Lcase ct_Lcase : Value}
  {f_law : Addr} {od_law an_law : Option Addr} {sl_law : Array (Option Value)} {oc_law kV_law dc_law pm_law cd_law ct_law : Value}
  {nm_BadGoals qn_BadGoals : Str} {N_BadGoals : Addr} {bs_BadGoals : List Value} {sn_BadGoals : List Str} {sb_BadGoals : List Value} {ab_BadGoals : Bool} {co_BadGoals : Option Bool} {dd_BadGoals : Option Addr} {m0_BadGoals m1_BadGoals m2_BadGoals m3_BadGoals m5_BadGoals : Option Value}
  {nm_BadLot qn_BadLot : Str} {N_BadLot : Addr} {bs_BadLot : List Value} {sn_BadLot : List Str} {sb_BadLot : List Value} {ab_BadLot : Bool} {co_BadLot : Option Bool} {dd_BadLot : Option Addr} {m0_BadLot m1_BadLot m2_BadLot m3_BadLot m5_BadLot : Option Value}
  {nm_NotAlike qn_NotAlike : Str} {N_NotAlike : Addr} {bs_NotAlike : List Value} {sn_NotAlike : List Str} {sb_NotAlike : List Value} {ab_NotAlike : Bool} {co_NotAlike : Option Bool} {dd_NotAlike : Option Addr} {m0_NotAlike m1_NotAlike m2_NotAlike m3_NotAlike m5_NotAlike : Option Value}
  {nm_BadCosts qn_BadCosts : Str} {N_BadCosts : Addr} {bs_BadCosts : List Value} {sn_BadCosts : List Str} {sb_BadCosts : List Value} {ab_BadCosts : Bool} {co_BadCosts : Option Bool} {dd_BadCosts : Option Addr} {m0_BadCosts m1_BadCosts m2_BadCosts m3_BadCosts m5_BadCosts : Option Value}
  {nm_BadWeights qn_BadWeights : Str} {N_BadWeights : Addr} {bs_BadWeights : List Value} {sn_BadWeights : List Str} {sb_BadWeights : List Value} {ab_BadWeights : Bool} {co_BadWeights : Option Bool} {dd_BadWeights : Option Addr} {m0_BadWeights m1_BadWeights m2_BadWeights m3_BadWeights m5_BadWeights : Option Value}
  {t_EAST : Tok}
  {t_WEST : Tok}
  {t_LADDER_MOST : Tok}
  {t_KINDS_MOST : Tok}
  {t_COUPLES_MOST : Tok}
  {t_COST_MOST : Tok}
  {t_TIMES_MOST : Tok}
  (a_CallError : PySem.W.nsIn K mainGlobals "CallError" = some (some (.ref C_CallError)))
  (a_BadGoals : PySem.W.nsIn K mainGlobals "BadGoals" = some (some (.ref C_BadGoals)))
  (a_BadLot : PySem.W.nsIn K mainGlobals "BadLot" = some (some (.ref C_BadLot)))
  (a_BadSide : PySem.W.nsIn K mainGlobals "BadSide" = some (some (.ref C_BadSide)))
  (a_NotAlike : PySem.W.nsIn K mainGlobals "NotAlike" = some (some (.ref C_NotAlike)))
  (a_BadCosts : PySem.W.nsIn K mainGlobals "BadCosts" = some (some (.ref C_BadCosts)))
  (a_BadWeights : PySem.W.nsIn K mainGlobals "BadWeights" = some (some (.ref C_BadWeights)))
  (a_Goals : PySem.W.nsIn K mainGlobals "Goals" = some (some (.ref C_Goals)))
  (a_Costs : PySem.W.nsIn K mainGlobals "Costs" = some (some (.ref C_Costs)))
  (a_Weights : PySem.W.nsIn K mainGlobals "Weights" = some (some (.ref C_Weights)))
  (a_BadGoalsu_initu : PySem.W.findIn K (.ref C_BadGoals) "__init__" = some (some (.ref f_BadGoalsu_initu)))
  (l_BadGoalsu_initu : K.lookup f_BadGoalsu_initu = some ⟨oc_BadGoalsu_initu, od_BadGoalsu_initu, .func (PySem.W.fnOf "__init__" "BadGoals.__init__" (defArgs s_BadGoalsu_initu) (defBody s_BadGoalsu_initu) (defScope s_BadGoalsu_initu) .none kV_BadGoalsu_initu dc_BadGoalsu_initu pm_BadGoalsu_initu an_BadGoalsu_initu cd_BadGoalsu_initu ct_BadGoalsu_initu), sl_BadGoalsu_initu⟩)
  (c_BadGoalsu_initu : PySem.W.codeIn K cd_BadGoalsu_initu "BadGoals.__init__" = true)
  (k_BadGoalsu_initu : PySem.W.keepIn K (.ref f_BadGoalsu_initu) = true)
  (a_BadLotu_initu : PySem.W.findIn K (.ref C_BadLot) "__init__" = some (some (.ref f_BadLotu_initu)))
  (l_BadLotu_initu : K.lookup f_BadLotu_initu = some ⟨oc_BadLotu_initu, od_BadLotu_initu, .func (PySem.W.fnOf "__init__" "BadLot.__init__" (defArgs s_BadLotu_initu) (defBody s_BadLotu_initu) (defScope s_BadLotu_initu) .none kV_BadLotu_initu dc_BadLotu_initu pm_BadLotu_initu an_BadLotu_initu cd_BadLotu_initu ct_BadLotu_initu), sl_BadLotu_initu⟩)
  (c_BadLotu_initu : PySem.W.codeIn K cd_BadLotu_initu "BadLot.__init__" = true)
  (k_BadLotu_initu : PySem.W.keepIn K (.ref f_BadLotu_initu) = true)
  (a_NotAlikeu_initu : PySem.W.findIn K (.ref C_NotAlike) "__init__" = some (some (.ref f_NotAlikeu_initu)))
  (l_NotAlikeu_initu : K.lookup f_NotAlikeu_initu = some ⟨oc_NotAlikeu_initu, od_NotAlikeu_initu, .func (PySem.W.fnOf "__init__" "NotAlike.__init__" (defArgs s_NotAlikeu_initu) (defBody s_NotAlikeu_initu) (defScope s_NotAlikeu_initu) .none kV_NotAlikeu_initu dc_NotAlikeu_initu pm_NotAlikeu_initu an_NotAlikeu_initu cd_NotAlikeu_initu ct_NotAlikeu_initu), sl_NotAlikeu_initu⟩)
  (c_NotAlikeu_initu : PySem.W.codeIn K cd_NotAlikeu_initu "NotAlike.__init__" = true)
  (k_NotAlikeu_initu : PySem.W.keepIn K (.ref f_NotAlikeu_initu) = true)
  (a_BadCostsu_initu : PySem.W.findIn K (.ref C_BadCosts) "__init__" = some (some (.ref f_BadCostsu_initu)))
  (l_BadCostsu_initu : K.lookup f_BadCostsu_initu = some ⟨oc_BadCostsu_initu, od_BadCostsu_initu, .func (PySem.W.fnOf "__init__" "BadCosts.__init__" (defArgs s_BadCostsu_initu) (defBody s_BadCostsu_initu) (defScope s_BadCostsu_initu) .none kV_BadCostsu_initu dc_BadCostsu_initu pm_BadCostsu_initu an_BadCostsu_initu cd_BadCostsu_initu ct_BadCostsu_initu), sl_BadCostsu_initu⟩)
  (c_BadCostsu_initu : PySem.W.codeIn K cd_BadCostsu_initu "BadCosts.__init__" = true)
  (k_BadCostsu_initu : PySem.W.keepIn K (.ref f_BadCostsu_initu) = true)
  (a_BadWeightsu_initu : PySem.W.findIn K (.ref C_BadWeights) "__init__" = some (some (.ref f_BadWeightsu_initu)))
  (l_BadWeightsu_initu : K.lookup f_BadWeightsu_initu = some ⟨oc_BadWeightsu_initu, od_BadWeightsu_initu, .func (PySem.W.fnOf "__init__" "BadWeights.__init__" (defArgs s_BadWeightsu_initu) (defBody s_BadWeightsu_initu) (defScope s_BadWeightsu_initu) .none kV_BadWeightsu_initu dc_BadWeightsu_initu pm_BadWeightsu_initu an_BadWeightsu_initu cd_BadWeightsu_initu ct_BadWeightsu_initu), sl_BadWeightsu_initu⟩)
  (c_BadWeightsu_initu : PySem.W.codeIn K cd_BadWeightsu_initu "BadWeights.__init__" = true)
  (k_BadWeightsu_initu : PySem.W.keepIn K (.ref f_BadWeightsu_initu) = true)
  (a_is_whole : PySem.W.nsIn K mainGlobals "is_whole" = some (some (.ref f_is_whole)))
  (l_is_whole : K.lookup f_is_whole = some ⟨oc_is_whole, od_is_whole, .func (PySem.W.fnOf "is_whole" "is_whole" (defArgs s_is_whole) (defBody s_is_whole) (defScope s_is_whole) (.ref q_is_whole) kV_is_whole dc_is_whole pm_is_whole an_is_whole cd_is_whole ct_is_whole), sl_is_whole⟩)
  (c_is_whole : PySem.W.codeIn K cd_is_whole "is_whole" = true)
  (k_is_whole : PySem.W.keepIn K (.ref f_is_whole) = true)
  (t_is_whole : K.lookup q_is_whole = some ⟨qc_is_whole, qd_is_whole, .seq #[Value.none, Value.none] qn_is_whole, qs_is_whole⟩)
  (a_is_truth : PySem.W.nsIn K mainGlobals "is_truth" = some (some (.ref f_is_truth)))
  (l_is_truth : K.lookup f_is_truth = some ⟨oc_is_truth, od_is_truth, .func (PySem.W.fnOf "is_truth" "is_truth" (defArgs s_is_truth) (defBody s_is_truth) (defScope s_is_truth) .none kV_is_truth dc_is_truth pm_is_truth an_is_truth cd_is_truth ct_is_truth), sl_is_truth⟩)
  (c_is_truth : PySem.W.codeIn K cd_is_truth "is_truth" = true)
  (k_is_truth : PySem.W.keepIn K (.ref f_is_truth) = true)
  (a_is_sequence : PySem.W.nsIn K mainGlobals "is_sequence" = some (some (.ref f_is_sequence)))
  (l_is_sequence : K.lookup f_is_sequence = some ⟨oc_is_sequence, od_is_sequence, .func (PySem.W.fnOf "is_sequence" "is_sequence" (defArgs s_is_sequence) (defBody s_is_sequence) (defScope s_is_sequence) .none kV_is_sequence dc_is_sequence pm_is_sequence an_is_sequence cd_is_sequence ct_is_sequence), sl_is_sequence⟩)
  (c_is_sequence : PySem.W.codeIn K cd_is_sequence "is_sequence" = true)
  (k_is_sequence : PySem.W.keepIn K (.ref f_is_sequence) = true)
  (a_check_side : PySem.W.nsIn K mainGlobals "check_side" = some (some (.ref f_check_side)))
  (l_check_side : K.lookup f_check_side = some ⟨oc_check_side, od_check_side, .func (PySem.W.fnOf "check_side" "check_side" (defArgs s_check_side) (defBody s_check_side) (defScope s_check_side) .none kV_check_side dc_check_side pm_check_side an_check_side cd_check_side ct_check_side), sl_check_side⟩)
  (c_check_side : PySem.W.codeIn K cd_check_side "check_side" = true)
  (k_check_side : PySem.W.keepIn K (.ref f_check_side) = true)
  (a_are_sides : PySem.W.nsIn K mainGlobals "are_sides" = some (some (.ref f_are_sides)))
  (l_are_sides : K.lookup f_are_sides = some ⟨oc_are_sides, od_are_sides, .func (PySem.W.fnOf "are_sides" "are_sides" (defArgs s_are_sides) (defBody s_are_sides) (defScope s_are_sides) .none kV_are_sides dc_are_sides pm_are_sides an_are_sides cd_are_sides ct_are_sides), sl_are_sides⟩)
  (c_are_sides : PySem.W.codeIn K cd_are_sides "are_sides" = true)
  (k_are_sides : PySem.W.keepIn K (.ref f_are_sides) = true)
  (a_couples_of : PySem.W.nsIn K mainGlobals "couples_of" = some (some (.ref f_couples_of)))
  (l_couples_of : K.lookup f_couples_of = some ⟨oc_couples_of, od_couples_of, .func (PySem.W.fnOf "couples_of" "couples_of" (defArgs s_couples_of) (defBody s_couples_of) (defScope s_couples_of) .none kV_couples_of dc_couples_of pm_couples_of an_couples_of cd_couples_of ct_couples_of), sl_couples_of⟩)
  (c_couples_of : PySem.W.codeIn K cd_couples_of "couples_of" = true)
  (k_couples_of : PySem.W.keepIn K (.ref f_couples_of) = true)
  (a_are_kinds : PySem.W.nsIn K mainGlobals "are_kinds" = some (some (.ref f_are_kinds)))
  (l_are_kinds : K.lookup f_are_kinds = some ⟨oc_are_kinds, od_are_kinds, .func (PySem.W.fnOf "are_kinds" "are_kinds" (defArgs s_are_kinds) (defBody s_are_kinds) (defScope s_are_kinds) .none kV_are_kinds dc_are_kinds pm_are_kinds an_are_kinds cd_are_kinds ct_are_kinds), sl_are_kinds⟩)
  (c_are_kinds : PySem.W.codeIn K cd_are_kinds "are_kinds" = true)
  (k_are_kinds : PySem.W.keepIn K (.ref f_are_kinds) = true)
  (a_is_order : PySem.W.nsIn K mainGlobals "is_order" = some (some (.ref f_is_order)))
  (l_is_order : K.lookup f_is_order = some ⟨oc_is_order, od_is_order, .func (PySem.W.fnOf "is_order" "is_order" (defArgs s_is_order) (defBody s_is_order) (defScope s_is_order) .none kV_is_order dc_is_order pm_is_order an_is_order cd_is_order ct_is_order), sl_is_order⟩)
  (c_is_order : PySem.W.codeIn K cd_is_order "is_order" = true)
  (k_is_order : PySem.W.keepIn K (.ref f_is_order) = true)
  (a_check_side_order : PySem.W.nsIn K mainGlobals "check_side_order" = some (some (.ref f_check_side_order)))
  (l_check_side_order : K.lookup f_check_side_order = some ⟨oc_check_side_order, od_check_side_order, .func (PySem.W.fnOf "check_side_order" "check_side_order" (defArgs s_check_side_order) (defBody s_check_side_order) (defScope s_check_side_order) .none kV_check_side_order dc_check_side_order pm_check_side_order an_check_side_order cd_check_side_order ct_check_side_order), sl_check_side_order⟩)
  (c_check_side_order : PySem.W.codeIn K cd_check_side_order "check_side_order" = true)
  (k_check_side_order : PySem.W.keepIn K (.ref f_check_side_order) = true)
  (a_sides_of_lines : PySem.W.nsIn K mainGlobals "sides_of_lines" = some (some (.ref f_sides_of_lines)))
  (l_sides_of_lines : K.lookup f_sides_of_lines = some ⟨oc_sides_of_lines, od_sides_of_lines, .func (PySem.W.fnOf "sides_of_lines" "sides_of_lines" (defArgs s_sides_of_lines) (defBody s_sides_of_lines) (defScope s_sides_of_lines) .none kV_sides_of_lines dc_sides_of_lines pm_sides_of_lines an_sides_of_lines cd_sides_of_lines ct_sides_of_lines), sl_sides_of_lines⟩)
  (c_sides_of_lines : PySem.W.codeIn K cd_sides_of_lines "sides_of_lines" = true)
  (k_sides_of_lines : PySem.W.keepIn K (.ref f_sides_of_lines) = true)
  (a_renumbered_lines : PySem.W.nsIn K mainGlobals "renumbered_lines" = some (some (.ref f_renumbered_lines)))
  (l_renumbered_lines : K.lookup f_renumbered_lines = some ⟨oc_renumbered_lines, od_renumbered_lines, .func (PySem.W.fnOf "renumbered_lines" "renumbered_lines" (defArgs s_renumbered_lines) (defBody s_renumbered_lines) (defScope s_renumbered_lines) .none kV_renumbered_lines dc_renumbered_lines pm_renumbered_lines an_renumbered_lines cd_renumbered_lines ct_renumbered_lines), sl_renumbered_lines⟩)
  (c_renumbered_lines : PySem.W.codeIn K cd_renumbered_lines "renumbered_lines" = true)
  (k_renumbered_lines : PySem.W.keepIn K (.ref f_renumbered_lines) = true)
  (a_are_ends : PySem.W.nsIn K mainGlobals "are_ends" = some (some (.ref f_are_ends)))
  (l_are_ends : K.lookup f_are_ends = some ⟨oc_are_ends, od_are_ends, .func (PySem.W.fnOf "are_ends" "are_ends" (defArgs s_are_ends) (defBody s_are_ends) (defScope s_are_ends) .none kV_are_ends dc_are_ends pm_are_ends an_are_ends cd_are_ends ct_are_ends), sl_are_ends⟩)
  (c_are_ends : PySem.W.codeIn K cd_are_ends "are_ends" = true)
  (k_are_ends : PySem.W.keepIn K (.ref f_are_ends) = true)
  (a_is_knowing : PySem.W.nsIn K mainGlobals "is_knowing" = some (some (.ref f_is_knowing)))
  (l_is_knowing : K.lookup f_is_knowing = some ⟨oc_is_knowing, od_is_knowing, .func (PySem.W.fnOf "is_knowing" "is_knowing" (defArgs s_is_knowing) (defBody s_is_knowing) (defScope s_is_knowing) .none kV_is_knowing dc_is_knowing pm_is_knowing an_is_knowing cd_is_knowing ct_is_knowing), sl_is_knowing⟩)
  (c_is_knowing : PySem.W.codeIn K cd_is_knowing "is_knowing" = true)
  (k_is_knowing : PySem.W.keepIn K (.ref f_is_knowing) = true)
  (a_Goalsu_initu : PySem.W.findIn K (.ref C_Goals) "__init__" = some (some (.ref f_Goalsu_initu)))
  (l_Goalsu_initu : K.lookup f_Goalsu_initu = some ⟨oc_Goalsu_initu, od_Goalsu_initu, .func (PySem.W.fnOf "__init__" "Goals.__init__" (defArgs s_Goalsu_initu) (defBody s_Goalsu_initu) (defScope s_Goalsu_initu) (.ref q_Goalsu_initu) kV_Goalsu_initu dc_Goalsu_initu pm_Goalsu_initu an_Goalsu_initu cd_Goalsu_initu ct_Goalsu_initu), sl_Goalsu_initu⟩)
  (c_Goalsu_initu : PySem.W.codeIn K cd_Goalsu_initu "Goals.__init__" = true)
  (k_Goalsu_initu : PySem.W.keepIn K (.ref f_Goalsu_initu) = true)
  (t_Goalsu_initu : K.lookup q_Goalsu_initu = some ⟨qc_Goalsu_initu, qd_Goalsu_initu, .seq #[Value.ref w0_Goalsu_initu] qn_Goalsu_initu, qs_Goalsu_initu⟩)
  (w0_Goalsu_initu_ : K.lookup w0_Goalsu_initu = some ⟨.type "tuple", wd0_Goalsu_initu, .seq #[Value.bool false, Value.bool false] wn0_Goalsu_initu, ws0_Goalsu_initu⟩)
  (a_Goalsu_equ : PySem.W.findIn K (.ref C_Goals) "__eq__" = some (some (.ref f_Goalsu_equ)))
  (l_Goalsu_equ : K.lookup f_Goalsu_equ = some ⟨oc_Goalsu_equ, od_Goalsu_equ, .func (PySem.W.fnOf "__eq__" "Goals.__eq__" (defArgs s_Goalsu_equ) (defBody s_Goalsu_equ) (defScope s_Goalsu_equ) .none kV_Goalsu_equ dc_Goalsu_equ pm_Goalsu_equ an_Goalsu_equ cd_Goalsu_equ ct_Goalsu_equ), sl_Goalsu_equ⟩)
  (c_Goalsu_equ : PySem.W.codeIn K cd_Goalsu_equ "Goals.__eq__" = true)
  (k_Goalsu_equ : PySem.W.keepIn K (.ref f_Goalsu_equ) = true)
  (a_Goals_renumbered : PySem.W.findIn K (.ref C_Goals) "renumbered" = some (some (.ref f_Goals_renumbered)))
  (l_Goals_renumbered : K.lookup f_Goals_renumbered = some ⟨oc_Goals_renumbered, od_Goals_renumbered, .func (PySem.W.fnOf "renumbered" "Goals.renumbered" (defArgs s_Goals_renumbered) (defBody s_Goals_renumbered) (defScope s_Goals_renumbered) .none kV_Goals_renumbered dc_Goals_renumbered pm_Goals_renumbered an_Goals_renumbered cd_Goals_renumbered ct_Goals_renumbered), sl_Goals_renumbered⟩)
  (c_Goals_renumbered : PySem.W.codeIn K cd_Goals_renumbered "Goals.renumbered" = true)
  (k_Goals_renumbered : PySem.W.keepIn K (.ref f_Goals_renumbered) = true)
  (a_is_entry : PySem.W.nsIn K mainGlobals "is_entry" = some (some (.ref f_is_entry)))
  (l_is_entry : K.lookup f_is_entry = some ⟨oc_is_entry, od_is_entry, .func (PySem.W.fnOf "is_entry" "is_entry" (defArgs s_is_entry) (defBody s_is_entry) (defScope s_is_entry) .none kV_is_entry dc_is_entry pm_is_entry an_is_entry cd_is_entry ct_is_entry), sl_is_entry⟩)
  (c_is_entry : PySem.W.codeIn K cd_is_entry "is_entry" = true)
  (k_is_entry : PySem.W.keepIn K (.ref f_is_entry) = true)
  (a_Costsu_initu : PySem.W.findIn K (.ref C_Costs) "__init__" = some (some (.ref f_Costsu_initu)))
  (l_Costsu_initu : K.lookup f_Costsu_initu = some ⟨oc_Costsu_initu, od_Costsu_initu, .func (PySem.W.fnOf "__init__" "Costs.__init__" (defArgs s_Costsu_initu) (defBody s_Costsu_initu) (defScope s_Costsu_initu) .none kV_Costsu_initu dc_Costsu_initu pm_Costsu_initu an_Costsu_initu cd_Costsu_initu ct_Costsu_initu), sl_Costsu_initu⟩)
  (c_Costsu_initu : PySem.W.codeIn K cd_Costsu_initu "Costs.__init__" = true)
  (k_Costsu_initu : PySem.W.keepIn K (.ref f_Costsu_initu) = true)
  (a_Costsu_equ : PySem.W.findIn K (.ref C_Costs) "__eq__" = some (some (.ref f_Costsu_equ)))
  (l_Costsu_equ : K.lookup f_Costsu_equ = some ⟨oc_Costsu_equ, od_Costsu_equ, .func (PySem.W.fnOf "__eq__" "Costs.__eq__" (defArgs s_Costsu_equ) (defBody s_Costsu_equ) (defScope s_Costsu_equ) .none kV_Costsu_equ dc_Costsu_equ pm_Costsu_equ an_Costsu_equ cd_Costsu_equ ct_Costsu_equ), sl_Costsu_equ⟩)
  (c_Costsu_equ : PySem.W.codeIn K cd_Costsu_equ "Costs.__eq__" = true)
  (k_Costsu_equ : PySem.W.keepIn K (.ref f_Costsu_equ) = true)
  (a_Costs_added : PySem.W.findIn K (.ref C_Costs) "added" = some (some (.ref f_Costs_added)))
  (l_Costs_added : K.lookup f_Costs_added = some ⟨oc_Costs_added, od_Costs_added, .func (PySem.W.fnOf "added" "Costs.added" (defArgs s_Costs_added) (defBody s_Costs_added) (defScope s_Costs_added) .none kV_Costs_added dc_Costs_added pm_Costs_added an_Costs_added cd_Costs_added ct_Costs_added), sl_Costs_added⟩)
  (c_Costs_added : PySem.W.codeIn K cd_Costs_added "Costs.added" = true)
  (k_Costs_added : PySem.W.keepIn K (.ref f_Costs_added) = true)
  (a_Costs_renumbered : PySem.W.findIn K (.ref C_Costs) "renumbered" = some (some (.ref f_Costs_renumbered)))
  (l_Costs_renumbered : K.lookup f_Costs_renumbered = some ⟨oc_Costs_renumbered, od_Costs_renumbered, .func (PySem.W.fnOf "renumbered" "Costs.renumbered" (defArgs s_Costs_renumbered) (defBody s_Costs_renumbered) (defScope s_Costs_renumbered) .none kV_Costs_renumbered dc_Costs_renumbered pm_Costs_renumbered an_Costs_renumbered cd_Costs_renumbered ct_Costs_renumbered), sl_Costs_renumbered⟩)
  (c_Costs_renumbered : PySem.W.codeIn K cd_Costs_renumbered "Costs.renumbered" = true)
  (k_Costs_renumbered : PySem.W.keepIn K (.ref f_Costs_renumbered) = true)
  (a_Weightsu_initu : PySem.W.findIn K (.ref C_Weights) "__init__" = some (some (.ref f_Weightsu_initu)))
  (l_Weightsu_initu : K.lookup f_Weightsu_initu = some ⟨oc_Weightsu_initu, od_Weightsu_initu, .func (PySem.W.fnOf "__init__" "Weights.__init__" (defArgs s_Weightsu_initu) (defBody s_Weightsu_initu) (defScope s_Weightsu_initu) .none kV_Weightsu_initu dc_Weightsu_initu pm_Weightsu_initu an_Weightsu_initu cd_Weightsu_initu ct_Weightsu_initu), sl_Weightsu_initu⟩)
  (c_Weightsu_initu : PySem.W.codeIn K cd_Weightsu_initu "Weights.__init__" = true)
  (k_Weightsu_initu : PySem.W.keepIn K (.ref f_Weightsu_initu) = true)
  (a_Weightsu_equ : PySem.W.findIn K (.ref C_Weights) "__eq__" = some (some (.ref f_Weightsu_equ)))
  (l_Weightsu_equ : K.lookup f_Weightsu_equ = some ⟨oc_Weightsu_equ, od_Weightsu_equ, .func (PySem.W.fnOf "__eq__" "Weights.__eq__" (defArgs s_Weightsu_equ) (defBody s_Weightsu_equ) (defScope s_Weightsu_equ) .none kV_Weightsu_equ dc_Weightsu_equ pm_Weightsu_equ an_Weightsu_equ cd_Weightsu_equ ct_Weightsu_equ), sl_Weightsu_equ⟩)
  (c_Weightsu_equ : PySem.W.codeIn K cd_Weightsu_equ "Weights.__eq__" = true)
  (k_Weightsu_equ : PySem.W.keepIn K (.ref f_Weightsu_equ) = true)
  (a_Weights_weight_sum : PySem.W.findIn K (.ref C_Weights) "weight_sum" = some (some (.ref p_Weights_weight_sum)))
  (pr_Weights_weight_sum : PySem.W.specialIn K (.ref p_Weights_weight_sum) "__get__" = some (some (.builtin "property.__get__")))
  (pt_Weights_weight_sum : PySem.W.takesIn K (.ref p_Weights_weight_sum) = some true)
  (r_Weights_weight_sum : PySem.W.recIn K p_Weights_weight_sum "property" = some (.ref f_Weights_weight_sum :: rs_Weights_weight_sum))
  (l_Weights_weight_sum : K.lookup f_Weights_weight_sum = some ⟨oc_Weights_weight_sum, od_Weights_weight_sum, .func (PySem.W.fnOf "weight_sum" "Weights.weight_sum" (defArgs s_Weights_weight_sum) (defBody s_Weights_weight_sum) (defScope s_Weights_weight_sum) .none kV_Weights_weight_sum dc_Weights_weight_sum pm_Weights_weight_sum an_Weights_weight_sum cd_Weights_weight_sum ct_Weights_weight_sum), sl_Weights_weight_sum⟩)
  (c_Weights_weight_sum : PySem.W.codeIn K cd_Weights_weight_sum "Weights.weight_sum" = true)
  (k_Weights_weight_sum : PySem.W.keepIn K (.ref f_Weights_weight_sum) = true)
  (a_Weights_even : PySem.W.findCls K (.ref C_Weights) (.type "type") "even" = some (.get (.builtin "staticmethod.__get__") (.ref p_Weights_even) .none (.ref C_Weights)))
  (r_Weights_even : PySem.W.recIn K p_Weights_even "staticmethod" = some (.ref f_Weights_even :: rs_Weights_even))
  (sr_Weights_even : PySem.W.readsIn K C_Weights (.type "type") = true)
  (sg_Weights_even : PySem.W.specialIn K (.ref C_Weights) "__getattribute__" = some (some (.builtin "type.__getattribute__")))
  (l_Weights_even : K.lookup f_Weights_even = some ⟨oc_Weights_even, od_Weights_even, .func (PySem.W.fnOf "even" "Weights.even" (defArgs s_Weights_even) (defBody s_Weights_even) (defScope s_Weights_even) .none kV_Weights_even dc_Weights_even pm_Weights_even an_Weights_even cd_Weights_even ct_Weights_even), sl_Weights_even⟩)
  (c_Weights_even : PySem.W.codeIn K cd_Weights_even "Weights.even" = true)
  (k_Weights_even : PySem.W.keepIn K (.ref f_Weights_even) = true)
  (a_Weights_plus : PySem.W.findIn K (.ref C_Weights) "plus" = some (some (.ref f_Weights_plus)))
  (l_Weights_plus : K.lookup f_Weights_plus = some ⟨oc_Weights_plus, od_Weights_plus, .func (PySem.W.fnOf "plus" "Weights.plus" (defArgs s_Weights_plus) (defBody s_Weights_plus) (defScope s_Weights_plus) .none kV_Weights_plus dc_Weights_plus pm_Weights_plus an_Weights_plus cd_Weights_plus ct_Weights_plus), sl_Weights_plus⟩)
  (c_Weights_plus : PySem.W.codeIn K cd_Weights_plus "Weights.plus" = true)
  (k_Weights_plus : PySem.W.keepIn K (.ref f_Weights_plus) = true)
  (a_Weights_times : PySem.W.findIn K (.ref C_Weights) "times" = some (some (.ref f_Weights_times)))
  (l_Weights_times : K.lookup f_Weights_times = some ⟨oc_Weights_times, od_Weights_times, .func (PySem.W.fnOf "times" "Weights.times" (defArgs s_Weights_times) (defBody s_Weights_times) (defScope s_Weights_times) .none kV_Weights_times dc_Weights_times pm_Weights_times an_Weights_times cd_Weights_times ct_Weights_times), sl_Weights_times⟩)
  (c_Weights_times : PySem.W.codeIn K cd_Weights_times "Weights.times" = true)
  (k_Weights_times : PySem.W.keepIn K (.ref f_Weights_times) = true)
  (a_Weights_renumbered : PySem.W.findIn K (.ref C_Weights) "renumbered" = some (some (.ref f_Weights_renumbered)))
  (l_Weights_renumbered : K.lookup f_Weights_renumbered = some ⟨oc_Weights_renumbered, od_Weights_renumbered, .func (PySem.W.fnOf "renumbered" "Weights.renumbered" (defArgs s_Weights_renumbered) (defBody s_Weights_renumbered) (defScope s_Weights_renumbered) .none kV_Weights_renumbered dc_Weights_renumbered pm_Weights_renumbered an_Weights_renumbered cd_Weights_renumbered ct_Weights_renumbered), sl_Weights_renumbered⟩)
  (c_Weights_renumbered : PySem.W.codeIn K cd_Weights_renumbered "Weights.renumbered" = true)
  (k_Weights_renumbered : PySem.W.keepIn K (.ref f_Weights_renumbered) = true)
  (a_check_weights : PySem.W.nsIn K mainGlobals "check_weights" = some (some (.ref f_check_weights)))
  (l_check_weights : K.lookup f_check_weights = some ⟨oc_check_weights, od_check_weights, .func (PySem.W.fnOf "check_weights" "check_weights" (defArgs s_check_weights) (defBody s_check_weights) (defScope s_check_weights) .none kV_check_weights dc_check_weights pm_check_weights an_check_weights cd_check_weights ct_check_weights), sl_check_weights⟩)
  (c_check_weights : PySem.W.codeIn K cd_check_weights "check_weights" = true)
  (k_check_weights : PySem.W.keepIn K (.ref f_check_weights) = true)
  (a_ends_up_to : PySem.W.nsIn K mainGlobals "ends_up_to" = some (some (.ref f_ends_up_to)))
  (l_ends_up_to : K.lookup f_ends_up_to = some ⟨oc_ends_up_to, od_ends_up_to, .func (PySem.W.fnOf "ends_up_to" "ends_up_to" (defArgs s_ends_up_to) (defBody s_ends_up_to) (defScope s_ends_up_to) .none kV_ends_up_to dc_ends_up_to pm_ends_up_to an_ends_up_to cd_ends_up_to ct_ends_up_to), sl_ends_up_to⟩)
  (c_ends_up_to : PySem.W.codeIn K cd_ends_up_to "ends_up_to" = true)
  (k_ends_up_to : PySem.W.keepIn K (.ref f_ends_up_to) = true)
  (a_floor_of : PySem.W.nsIn K mainGlobals "floor_of" = some (some (.ref f_floor_of)))
  (l_floor_of : K.lookup f_floor_of = some ⟨oc_floor_of, od_floor_of, .func (PySem.W.fnOf "floor_of" "floor_of" (defArgs s_floor_of) (defBody s_floor_of) (defScope s_floor_of) .none kV_floor_of dc_floor_of pm_floor_of an_floor_of cd_floor_of ct_floor_of), sl_floor_of⟩)
  (c_floor_of : PySem.W.codeIn K cd_floor_of "floor_of" = true)
  (k_floor_of : PySem.W.keepIn K (.ref f_floor_of) = true)
  (a_cheapest_goals : PySem.W.nsIn K mainGlobals "cheapest_goals" = some (some (.ref f_cheapest_goals)))
  (l_cheapest_goals : K.lookup f_cheapest_goals = some ⟨oc_cheapest_goals, od_cheapest_goals, .func (PySem.W.fnOf "cheapest_goals" "cheapest_goals" (defArgs s_cheapest_goals) (defBody s_cheapest_goals) (defScope s_cheapest_goals) .none kV_cheapest_goals dc_cheapest_goals pm_cheapest_goals an_cheapest_goals cd_cheapest_goals ct_cheapest_goals), sl_cheapest_goals⟩)
  (c_cheapest_goals : PySem.W.codeIn K cd_cheapest_goals "cheapest_goals" = true)
  (k_cheapest_goals : PySem.W.keepIn K (.ref f_cheapest_goals) = true)
  (a_as_goals : PySem.W.nsIn K mainGlobals "as_goals" = some (some (.ref f_as_goals)))
  (l_as_goals : K.lookup f_as_goals = some ⟨oc_as_goals, od_as_goals, .func (PySem.W.fnOf "as_goals" "as_goals" (defArgs s_as_goals) (defBody s_as_goals) (defScope s_as_goals) .none kV_as_goals dc_as_goals pm_as_goals an_as_goals cd_as_goals ct_as_goals), sl_as_goals⟩)
  (c_as_goals : PySem.W.codeIn K cd_as_goals "as_goals" = true)
  (k_as_goals : PySem.W.keepIn K (.ref f_as_goals) = true)
  (a_Lmix : PySem.W.nsIn K mainGlobals "_law_mix" = some (some (.ref f_Lmix)))
  (l_Lmix : K.lookup f_Lmix = some ⟨oc_Lmix, od_Lmix, .func (PySem.W.fnOf "_law_mix" "_law_mix" (defArgs s_Lmix) (defBody s_Lmix) (defScope s_Lmix) .none kV_Lmix dc_Lmix pm_Lmix an_Lmix cd_Lmix ct_Lmix), sl_Lmix⟩)
  (c_Lmix : PySem.W.codeIn K cd_Lmix "_law_mix" = true)
  (k_Lmix : PySem.W.keepIn K (.ref f_Lmix) = true)
  (a_Lhand : PySem.W.nsIn K mainGlobals "_law_hand" = some (some (.ref f_Lhand)))
  (l_Lhand : K.lookup f_Lhand = some ⟨oc_Lhand, od_Lhand, .func (PySem.W.fnOf "_law_hand" "_law_hand" (defArgs s_Lhand) (defBody s_Lhand) (defScope s_Lhand) .none kV_Lhand dc_Lhand pm_Lhand an_Lhand cd_Lhand ct_Lhand), sl_Lhand⟩)
  (c_Lhand : PySem.W.codeIn K cd_Lhand "_law_hand" = true)
  (k_Lhand : PySem.W.keepIn K (.ref f_Lhand) = true)
  (a_Ldraw : PySem.W.nsIn K mainGlobals "_law_draw" = some (some (.ref f_Ldraw)))
  (l_Ldraw : K.lookup f_Ldraw = some ⟨oc_Ldraw, od_Ldraw, .func (PySem.W.fnOf "_law_draw" "_law_draw" (defArgs s_Ldraw) (defBody s_Ldraw) (defScope s_Ldraw) .none kV_Ldraw dc_Ldraw pm_Ldraw an_Ldraw cd_Ldraw ct_Ldraw), sl_Ldraw⟩)
  (c_Ldraw : PySem.W.codeIn K cd_Ldraw "_law_draw" = true)
  (k_Ldraw : PySem.W.keepIn K (.ref f_Ldraw) = true)
  (a_Lwhole : PySem.W.nsIn K mainGlobals "_law_whole" = some (some (.ref f_Lwhole)))
  (l_Lwhole : K.lookup f_Lwhole = some ⟨oc_Lwhole, od_Lwhole, .func (PySem.W.fnOf "_law_whole" "_law_whole" (defArgs s_Lwhole) (defBody s_Lwhole) (defScope s_Lwhole) .none kV_Lwhole dc_Lwhole pm_Lwhole an_Lwhole cd_Lwhole ct_Lwhole), sl_Lwhole⟩)
  (c_Lwhole : PySem.W.codeIn K cd_Lwhole "_law_whole" = true)
  (k_Lwhole : PySem.W.keepIn K (.ref f_Lwhole) = true)
  (a_Lshape : PySem.W.nsIn K mainGlobals "_law_shape" = some (some (.ref f_Lshape)))
  (l_Lshape : K.lookup f_Lshape = some ⟨oc_Lshape, od_Lshape, .func (PySem.W.fnOf "_law_shape" "_law_shape" (defArgs s_Lshape) (defBody s_Lshape) (defScope s_Lshape) .none kV_Lshape dc_Lshape pm_Lshape an_Lshape cd_Lshape ct_Lshape), sl_Lshape⟩)
  (c_Lshape : PySem.W.codeIn K cd_Lshape "_law_shape" = true)
  (k_Lshape : PySem.W.keepIn K (.ref f_Lshape) = true)
  (a_Ldrawn : PySem.W.nsIn K mainGlobals "_law_drawn" = some (some (.ref f_Ldrawn)))
  (l_Ldrawn : K.lookup f_Ldrawn = some ⟨oc_Ldrawn, od_Ldrawn, .func (PySem.W.fnOf "_law_drawn" "_law_drawn" (defArgs s_Ldrawn) (defBody s_Ldrawn) (defScope s_Ldrawn) .none kV_Ldrawn dc_Ldrawn pm_Ldrawn an_Ldrawn cd_Ldrawn ct_Ldrawn), sl_Ldrawn⟩)
  (c_Ldrawn : PySem.W.codeIn K cd_Ldrawn "_law_drawn" = true)
  (k_Ldrawn : PySem.W.keepIn K (.ref f_Ldrawn) = true)
  (a_Ltuples : PySem.W.nsIn K mainGlobals "_law_tuples" = some (some (.ref f_Ltuples)))
  (l_Ltuples : K.lookup f_Ltuples = some ⟨oc_Ltuples, od_Ltuples, .func (PySem.W.fnOf "_law_tuples" "_law_tuples" (defArgs s_Ltuples) (defBody s_Ltuples) (defScope s_Ltuples) .none kV_Ltuples dc_Ltuples pm_Ltuples an_Ltuples cd_Ltuples ct_Ltuples), sl_Ltuples⟩)
  (c_Ltuples : PySem.W.codeIn K cd_Ltuples "_law_tuples" = true)
  (k_Ltuples : PySem.W.keepIn K (.ref f_Ltuples) = true)
  (a_Ldue : PySem.W.nsIn K mainGlobals "_law_due" = some (some (.ref f_Ldue)))
  (l_Ldue : K.lookup f_Ldue = some ⟨oc_Ldue, od_Ldue, .func (PySem.W.fnOf "_law_due" "_law_due" (defArgs s_Ldue) (defBody s_Ldue) (defScope s_Ldue) .none kV_Ldue dc_Ldue pm_Ldue an_Ldue cd_Ldue ct_Ldue), sl_Ldue⟩)
  (c_Ldue : PySem.W.codeIn K cd_Ldue "_law_due" = true)
  (k_Ldue : PySem.W.keepIn K (.ref f_Ldue) = true)
  (a_Lmade : PySem.W.nsIn K mainGlobals "_law_made" = some (some (.ref f_Lmade)))
  (l_Lmade : K.lookup f_Lmade = some ⟨oc_Lmade, od_Lmade, .func (PySem.W.fnOf "_law_made" "_law_made" (defArgs s_Lmade) (defBody s_Lmade) (defScope s_Lmade) .none kV_Lmade dc_Lmade pm_Lmade an_Lmade cd_Lmade ct_Lmade), sl_Lmade⟩)
  (c_Lmade : PySem.W.codeIn K cd_Lmade "_law_made" = true)
  (k_Lmade : PySem.W.keepIn K (.ref f_Lmade) = true)
  (a_Lmade_due : PySem.W.nsIn K mainGlobals "_law_made_due" = some (some (.ref f_Lmade_due)))
  (l_Lmade_due : K.lookup f_Lmade_due = some ⟨oc_Lmade_due, od_Lmade_due, .func (PySem.W.fnOf "_law_made_due" "_law_made_due" (defArgs s_Lmade_due) (defBody s_Lmade_due) (defScope s_Lmade_due) .none kV_Lmade_due dc_Lmade_due pm_Lmade_due an_Lmade_due cd_Lmade_due ct_Lmade_due), sl_Lmade_due⟩)
  (c_Lmade_due : PySem.W.codeIn K cd_Lmade_due "_law_made_due" = true)
  (k_Lmade_due : PySem.W.keepIn K (.ref f_Lmade_due) = true)
  (a_Lspoil : PySem.W.nsIn K mainGlobals "_law_spoil" = some (some (.ref f_Lspoil)))
  (l_Lspoil : K.lookup f_Lspoil = some ⟨oc_Lspoil, od_Lspoil, .func (PySem.W.fnOf "_law_spoil" "_law_spoil" (defArgs s_Lspoil) (defBody s_Lspoil) (defScope s_Lspoil) .none kV_Lspoil dc_Lspoil pm_Lspoil an_Lspoil cd_Lspoil ct_Lspoil), sl_Lspoil⟩)
  (c_Lspoil : PySem.W.codeIn K cd_Lspoil "_law_spoil" = true)
  (k_Lspoil : PySem.W.keepIn K (.ref f_Lspoil) = true)
  (a_Lplus : PySem.W.nsIn K mainGlobals "_law_plus" = some (some (.ref f_Lplus)))
  (l_Lplus : K.lookup f_Lplus = some ⟨oc_Lplus, od_Lplus, .func (PySem.W.fnOf "_law_plus" "_law_plus" (defArgs s_Lplus) (defBody s_Lplus) (defScope s_Lplus) .none kV_Lplus dc_Lplus pm_Lplus an_Lplus cd_Lplus ct_Lplus), sl_Lplus⟩)
  (c_Lplus : PySem.W.codeIn K cd_Lplus "_law_plus" = true)
  (k_Lplus : PySem.W.keepIn K (.ref f_Lplus) = true)
  (a_Ltimes : PySem.W.nsIn K mainGlobals "_law_times" = some (some (.ref f_Ltimes)))
  (l_Ltimes : K.lookup f_Ltimes = some ⟨oc_Ltimes, od_Ltimes, .func (PySem.W.fnOf "_law_times" "_law_times" (defArgs s_Ltimes) (defBody s_Ltimes) (defScope s_Ltimes) .none kV_Ltimes dc_Ltimes pm_Ltimes an_Ltimes cd_Ltimes ct_Ltimes), sl_Ltimes⟩)
  (c_Ltimes : PySem.W.codeIn K cd_Ltimes "_law_times" = true)
  (k_Ltimes : PySem.W.keepIn K (.ref f_Ltimes) = true)
  (a_Leven : PySem.W.nsIn K mainGlobals "_law_even" = some (some (.ref f_Leven)))
  (l_Leven : K.lookup f_Leven = some ⟨oc_Leven, od_Leven, .func (PySem.W.fnOf "_law_even" "_law_even" (defArgs s_Leven) (defBody s_Leven) (defScope s_Leven) .none kV_Leven dc_Leven pm_Leven an_Leven cd_Leven ct_Leven), sl_Leven⟩)
  (c_Leven : PySem.W.codeIn K cd_Leven "_law_even" = true)
  (k_Leven : PySem.W.keepIn K (.ref f_Leven) = true)
  (a_Lrenumbered : PySem.W.nsIn K mainGlobals "_law_renumbered" = some (some (.ref f_Lrenumbered)))
  (l_Lrenumbered : K.lookup f_Lrenumbered = some ⟨oc_Lrenumbered, od_Lrenumbered, .func (PySem.W.fnOf "_law_renumbered" "_law_renumbered" (defArgs s_Lrenumbered) (defBody s_Lrenumbered) (defScope s_Lrenumbered) .none kV_Lrenumbered dc_Lrenumbered pm_Lrenumbered an_Lrenumbered cd_Lrenumbered ct_Lrenumbered), sl_Lrenumbered⟩)
  (c_Lrenumbered : PySem.W.codeIn K cd_Lrenumbered "_law_renumbered" = true)
  (k_Lrenumbered : PySem.W.keepIn K (.ref f_Lrenumbered) = true)
  (a_Ladded_due : PySem.W.nsIn K mainGlobals "_law_added_due" = some (some (.ref f_Ladded_due)))
  (l_Ladded_due : K.lookup f_Ladded_due = some ⟨oc_Ladded_due, od_Ladded_due, .func (PySem.W.fnOf "_law_added_due" "_law_added_due" (defArgs s_Ladded_due) (defBody s_Ladded_due) (defScope s_Ladded_due) .none kV_Ladded_due dc_Ladded_due pm_Ladded_due an_Ladded_due cd_Ladded_due ct_Ladded_due), sl_Ladded_due⟩)
  (c_Ladded_due : PySem.W.codeIn K cd_Ladded_due "_law_added_due" = true)
  (k_Ladded_due : PySem.W.keepIn K (.ref f_Ladded_due) = true)
  (a_Lorder : PySem.W.nsIn K mainGlobals "_law_order" = some (some (.ref f_Lorder)))
  (l_Lorder : K.lookup f_Lorder = some ⟨oc_Lorder, od_Lorder, .func (PySem.W.fnOf "_law_order" "_law_order" (defArgs s_Lorder) (defBody s_Lorder) (defScope s_Lorder) .none kV_Lorder dc_Lorder pm_Lorder an_Lorder cd_Lorder ct_Lorder), sl_Lorder⟩)
  (c_Lorder : PySem.W.codeIn K cd_Lorder "_law_order" = true)
  (k_Lorder : PySem.W.keepIn K (.ref f_Lorder) = true)
  (a_Lweights : PySem.W.nsIn K mainGlobals "_law_weights" = some (some (.ref f_Lweights)))
  (l_Lweights : K.lookup f_Lweights = some ⟨oc_Lweights, od_Lweights, .func (PySem.W.fnOf "_law_weights" "_law_weights" (defArgs s_Lweights) (defBody s_Lweights) (defScope s_Lweights) .none kV_Lweights dc_Lweights pm_Lweights an_Lweights cd_Lweights ct_Lweights), sl_Lweights⟩)
  (c_Lweights : PySem.W.codeIn K cd_Lweights "_law_weights" = true)
  (k_Lweights : PySem.W.keepIn K (.ref f_Lweights) = true)
  (a_Lturned : PySem.W.nsIn K mainGlobals "_law_turned" = some (some (.ref f_Lturned)))
  (l_Lturned : K.lookup f_Lturned = some ⟨oc_Lturned, od_Lturned, .func (PySem.W.fnOf "_law_turned" "_law_turned" (defArgs s_Lturned) (defBody s_Lturned) (defScope s_Lturned) .none kV_Lturned dc_Lturned pm_Lturned an_Lturned cd_Lturned ct_Lturned), sl_Lturned⟩)
  (c_Lturned : PySem.W.codeIn K cd_Lturned "_law_turned" = true)
  (k_Lturned : PySem.W.keepIn K (.ref f_Lturned) = true)
  (a_Lcosts : PySem.W.nsIn K mainGlobals "_law_costs" = some (some (.ref f_Lcosts)))
  (l_Lcosts : K.lookup f_Lcosts = some ⟨oc_Lcosts, od_Lcosts, .func (PySem.W.fnOf "_law_costs" "_law_costs" (defArgs s_Lcosts) (defBody s_Lcosts) (defScope s_Lcosts) .none kV_Lcosts dc_Lcosts pm_Lcosts an_Lcosts cd_Lcosts ct_Lcosts), sl_Lcosts⟩)
  (c_Lcosts : PySem.W.codeIn K cd_Lcosts "_law_costs" = true)
  (k_Lcosts : PySem.W.keepIn K (.ref f_Lcosts) = true)
  (a_Lup_to : PySem.W.nsIn K mainGlobals "_law_up_to" = some (some (.ref f_Lup_to)))
  (l_Lup_to : K.lookup f_Lup_to = some ⟨oc_Lup_to, od_Lup_to, .func (PySem.W.fnOf "_law_up_to" "_law_up_to" (defArgs s_Lup_to) (defBody s_Lup_to) (defScope s_Lup_to) .none kV_Lup_to dc_Lup_to pm_Lup_to an_Lup_to cd_Lup_to ct_Lup_to), sl_Lup_to⟩)
  (c_Lup_to : PySem.W.codeIn K cd_Lup_to "_law_up_to" = true)
  (k_Lup_to : PySem.W.keepIn K (.ref f_Lup_to) = true)
  (a_Las_goals : PySem.W.nsIn K mainGlobals "_law_as_goals" = some (some (.ref f_Las_goals)))
  (l_Las_goals : K.lookup f_Las_goals = some ⟨oc_Las_goals, od_Las_goals, .func (PySem.W.fnOf "_law_as_goals" "_law_as_goals" (defArgs s_Las_goals) (defBody s_Las_goals) (defScope s_Las_goals) .none kV_Las_goals dc_Las_goals pm_Las_goals an_Las_goals cd_Las_goals ct_Las_goals), sl_Las_goals⟩)
  (c_Las_goals : PySem.W.codeIn K cd_Las_goals "_law_as_goals" = true)
  (k_Las_goals : PySem.W.keepIn K (.ref f_Las_goals) = true)
  (a_Lgoals : PySem.W.nsIn K mainGlobals "_law_goals" = some (some (.ref f_Lgoals)))
  (l_Lgoals : K.lookup f_Lgoals = some ⟨oc_Lgoals, od_Lgoals, .func (PySem.W.fnOf "_law_goals" "_law_goals" (defArgs s_Lgoals) (defBody s_Lgoals) (defScope s_Lgoals) .none kV_Lgoals dc_Lgoals pm_Lgoals an_Lgoals cd_Lgoals ct_Lgoals), sl_Lgoals⟩)
  (c_Lgoals : PySem.W.codeIn K cd_Lgoals "_law_goals" = true)
  (k_Lgoals : PySem.W.keepIn K (.ref f_Lgoals) = true)
  (a_Lunlike : PySem.W.nsIn K mainGlobals "_law_unlike" = some (some (.ref f_Lunlike)))
  (l_Lunlike : K.lookup f_Lunlike = some ⟨oc_Lunlike, od_Lunlike, .func (PySem.W.fnOf "_law_unlike" "_law_unlike" (defArgs s_Lunlike) (defBody s_Lunlike) (defScope s_Lunlike) .none kV_Lunlike dc_Lunlike pm_Lunlike an_Lunlike cd_Lunlike ct_Lunlike), sl_Lunlike⟩)
  (c_Lunlike : PySem.W.codeIn K cd_Lunlike "_law_unlike" = true)
  (k_Lunlike : PySem.W.keepIn K (.ref f_Lunlike) = true)
  (a_Lcase : PySem.W.nsIn K mainGlobals "_law_case" = some (some (.ref f_Lcase)))
  (l_Lcase : K.lookup f_Lcase = some ⟨oc_Lcase, od_Lcase, .func (PySem.W.fnOf "_law_case" "_law_case" (defArgs s_Lcase) (defBody s_Lcase) (defScope s_Lcase) .none kV_Lcase dc_Lcase pm_Lcase an_Lcase cd_Lcase ct_Lcase), sl_Lcase⟩)
  (c_Lcase : PySem.W.codeIn K cd_Lcase "_law_case" = true)
  (k_Lcase : PySem.W.keepIn K (.ref f_Lcase) = true)
  (a_law : PySem.W.nsIn K mainGlobals "law" = some (some (.ref f_law)))
  (l_law : K.lookup f_law = some ⟨oc_law, od_law, .func (PySem.W.fnOf "law" "law" (defArgs s_law) (defBody s_law) (defScope s_law) .none kV_law dc_law pm_law an_law cd_law ct_law), sl_law⟩)
  (c_law : PySem.W.codeIn K cd_law "law" = true)
  (k_law : PySem.W.keepIn K (.ref f_law) = true)
  (k_CallError : PySem.W.keepIn K (.ref C_CallError) = true)
  (b_CallError : PySem.W.subIn K (.ref C_CallError) (.type "BaseException") = some true)
  (t_CallError : PySem.W.typeIn K (.ref C_CallError) = some (.type "type"))
  (i_CallError : PySem.W.isClsIn K C_CallError = true)
  (s_CallError : PySem.W.subIn K (.ref C_CallError) (.ref C_CallError) = some true)
  (x_CallError : PySem.W.excIn K C_CallError [.type "ValueError", .type "Exception", .type "BaseException", .type "object"] "ValueError.__new__" = true)
  (k_BadGoals : PySem.W.keepIn K (.ref C_BadGoals) = true)
  (b_BadGoals : PySem.W.subIn K (.ref C_BadGoals) (.type "BaseException") = some true)
  (t_BadGoals : PySem.W.typeIn K (.ref C_BadGoals) = some (.type "type"))
  (i_BadGoals : PySem.W.isClsIn K C_BadGoals = true)
  (s_BadGoals : PySem.W.subIn K (.ref C_BadGoals) (.ref C_BadGoals) = some true)
  (x_BadGoals : K.lookup C_BadGoals = some (excClassObj nm_BadGoals qn_BadGoals C_BadGoals N_BadGoals bs_BadGoals [.ref C_CallError, .type "ValueError", .type "Exception", .type "BaseException", .type "object"] true sn_BadGoals sb_BadGoals ab_BadGoals co_BadGoals dd_BadGoals m0_BadGoals m1_BadGoals m2_BadGoals m3_BadGoals m5_BadGoals "ValueError.__new__"))
  (sa_BadGoals : PySem.W.findIn K (.ref C_BadGoals) "__setattr__" = some (some (.builtin "object.__setattr__")))
  (ga_BadGoals : PySem.W.findIn K (.ref C_BadGoals) "__getattribute__" = some (some (.builtin "BaseException.__getattribute__")))
  (gg_BadGoals : PySem.W.findIn K (.ref C_BadGoals) "__getattr__" = some none)
  (hd_BadGoals : PySem.W.hasDictIn K C_BadGoals = true)
  (y_BadGoals : PySem.W.typeIn K (.ref f_BadGoalsu_initu) = some (.type "function"))
  (n_BadGoals_what : PySem.W.findIn K (.ref C_BadGoals) "what" = some none)
  (u_BadLot_BadSide : PySem.W.subIn K (.ref C_BadLot) (.ref C_BadSide) = some false)
  (k_BadLot : PySem.W.keepIn K (.ref C_BadLot) = true)
  (b_BadLot : PySem.W.subIn K (.ref C_BadLot) (.type "BaseException") = some true)
  (t_BadLot : PySem.W.typeIn K (.ref C_BadLot) = some (.type "type"))
  (i_BadLot : PySem.W.isClsIn K C_BadLot = true)
  (s_BadLot : PySem.W.subIn K (.ref C_BadLot) (.ref C_BadLot) = some true)
  (x_BadLot : K.lookup C_BadLot = some (excClassObj nm_BadLot qn_BadLot C_BadLot N_BadLot bs_BadLot [.ref C_CallError, .type "ValueError", .type "Exception", .type "BaseException", .type "object"] true sn_BadLot sb_BadLot ab_BadLot co_BadLot dd_BadLot m0_BadLot m1_BadLot m2_BadLot m3_BadLot m5_BadLot "ValueError.__new__"))
  (sa_BadLot : PySem.W.findIn K (.ref C_BadLot) "__setattr__" = some (some (.builtin "object.__setattr__")))
  (ga_BadLot : PySem.W.findIn K (.ref C_BadLot) "__getattribute__" = some (some (.builtin "BaseException.__getattribute__")))
  (gg_BadLot : PySem.W.findIn K (.ref C_BadLot) "__getattr__" = some none)
  (hd_BadLot : PySem.W.hasDictIn K C_BadLot = true)
  (y_BadLot : PySem.W.typeIn K (.ref f_BadLotu_initu) = some (.type "function"))
  (n_BadLot_side : PySem.W.findIn K (.ref C_BadLot) "side" = some none)
  (k_BadSide : PySem.W.keepIn K (.ref C_BadSide) = true)
  (b_BadSide : PySem.W.subIn K (.ref C_BadSide) (.type "BaseException") = some true)
  (t_BadSide : PySem.W.typeIn K (.ref C_BadSide) = some (.type "type"))
  (i_BadSide : PySem.W.isClsIn K C_BadSide = true)
  (s_BadSide : PySem.W.subIn K (.ref C_BadSide) (.ref C_BadSide) = some true)
  (x_BadSide : PySem.W.excIn K C_BadSide [.type "ValueError", .type "Exception", .type "BaseException", .type "object"] "ValueError.__new__" = true)
  (k_NotAlike : PySem.W.keepIn K (.ref C_NotAlike) = true)
  (b_NotAlike : PySem.W.subIn K (.ref C_NotAlike) (.type "BaseException") = some true)
  (t_NotAlike : PySem.W.typeIn K (.ref C_NotAlike) = some (.type "type"))
  (i_NotAlike : PySem.W.isClsIn K C_NotAlike = true)
  (s_NotAlike : PySem.W.subIn K (.ref C_NotAlike) (.ref C_NotAlike) = some true)
  (x_NotAlike : K.lookup C_NotAlike = some (excClassObj nm_NotAlike qn_NotAlike C_NotAlike N_NotAlike bs_NotAlike [.ref C_CallError, .type "ValueError", .type "Exception", .type "BaseException", .type "object"] true sn_NotAlike sb_NotAlike ab_NotAlike co_NotAlike dd_NotAlike m0_NotAlike m1_NotAlike m2_NotAlike m3_NotAlike m5_NotAlike "ValueError.__new__"))
  (sa_NotAlike : PySem.W.findIn K (.ref C_NotAlike) "__setattr__" = some (some (.builtin "object.__setattr__")))
  (ga_NotAlike : PySem.W.findIn K (.ref C_NotAlike) "__getattribute__" = some (some (.builtin "BaseException.__getattribute__")))
  (gg_NotAlike : PySem.W.findIn K (.ref C_NotAlike) "__getattr__" = some none)
  (hd_NotAlike : PySem.W.hasDictIn K C_NotAlike = true)
  (y_NotAlike : PySem.W.typeIn K (.ref f_NotAlikeu_initu) = some (.type "function"))
  (n_NotAlike_what : PySem.W.findIn K (.ref C_NotAlike) "what" = some none)
  (k_BadCosts : PySem.W.keepIn K (.ref C_BadCosts) = true)
  (b_BadCosts : PySem.W.subIn K (.ref C_BadCosts) (.type "BaseException") = some true)
  (t_BadCosts : PySem.W.typeIn K (.ref C_BadCosts) = some (.type "type"))
  (i_BadCosts : PySem.W.isClsIn K C_BadCosts = true)
  (s_BadCosts : PySem.W.subIn K (.ref C_BadCosts) (.ref C_BadCosts) = some true)
  (x_BadCosts : K.lookup C_BadCosts = some (excClassObj nm_BadCosts qn_BadCosts C_BadCosts N_BadCosts bs_BadCosts [.ref C_CallError, .type "ValueError", .type "Exception", .type "BaseException", .type "object"] true sn_BadCosts sb_BadCosts ab_BadCosts co_BadCosts dd_BadCosts m0_BadCosts m1_BadCosts m2_BadCosts m3_BadCosts m5_BadCosts "ValueError.__new__"))
  (sa_BadCosts : PySem.W.findIn K (.ref C_BadCosts) "__setattr__" = some (some (.builtin "object.__setattr__")))
  (ga_BadCosts : PySem.W.findIn K (.ref C_BadCosts) "__getattribute__" = some (some (.builtin "BaseException.__getattribute__")))
  (gg_BadCosts : PySem.W.findIn K (.ref C_BadCosts) "__getattr__" = some none)
  (hd_BadCosts : PySem.W.hasDictIn K C_BadCosts = true)
  (y_BadCosts : PySem.W.typeIn K (.ref f_BadCostsu_initu) = some (.type "function"))
  (n_BadCosts_what : PySem.W.findIn K (.ref C_BadCosts) "what" = some none)
  (u_BadWeights_NotAlike : PySem.W.subIn K (.ref C_BadWeights) (.ref C_NotAlike) = some false)
  (k_BadWeights : PySem.W.keepIn K (.ref C_BadWeights) = true)
  (b_BadWeights : PySem.W.subIn K (.ref C_BadWeights) (.type "BaseException") = some true)
  (t_BadWeights : PySem.W.typeIn K (.ref C_BadWeights) = some (.type "type"))
  (i_BadWeights : PySem.W.isClsIn K C_BadWeights = true)
  (s_BadWeights : PySem.W.subIn K (.ref C_BadWeights) (.ref C_BadWeights) = some true)
  (x_BadWeights : K.lookup C_BadWeights = some (excClassObj nm_BadWeights qn_BadWeights C_BadWeights N_BadWeights bs_BadWeights [.ref C_CallError, .type "ValueError", .type "Exception", .type "BaseException", .type "object"] true sn_BadWeights sb_BadWeights ab_BadWeights co_BadWeights dd_BadWeights m0_BadWeights m1_BadWeights m2_BadWeights m3_BadWeights m5_BadWeights "ValueError.__new__"))
  (sa_BadWeights : PySem.W.findIn K (.ref C_BadWeights) "__setattr__" = some (some (.builtin "object.__setattr__")))
  (ga_BadWeights : PySem.W.findIn K (.ref C_BadWeights) "__getattribute__" = some (some (.builtin "BaseException.__getattribute__")))
  (gg_BadWeights : PySem.W.findIn K (.ref C_BadWeights) "__getattr__" = some none)
  (hd_BadWeights : PySem.W.hasDictIn K C_BadWeights = true)
  (y_BadWeights : PySem.W.typeIn K (.ref f_BadWeightsu_initu) = some (.type "function"))
  (n_BadWeights_what : PySem.W.findIn K (.ref C_BadWeights) "what" = some none)
  (kp_Goals : PySem.W.keepIn K (.ref C_Goals) = true)
  (pg_Goals : PySem.W.plainGet K C_Goals Str.empty = true)
  (hd_Goals : PySem.W.hasDictIn K C_Goals = true)
  (po_Goals : PySem.W.plainOver K C_Goals = true)
  (sa_Goals : PySem.W.findIn K (.ref C_Goals) "__setattr__" = some (some (.builtin "object.__setattr__")))
  (mk_Goals : PySem.W.makesIn K C_Goals = true)
  (fn_Goalsu_initu : PySem.W.isFn K (.ref f_Goalsu_initu) = true)
  (fn_Goalsu_equ : PySem.W.isFn K (.ref f_Goalsu_equ) = true)
  (fn_Goals_renumbered : PySem.W.isFn K (.ref f_Goals_renumbered) = true)
  (n_Goals_ladder : PySem.W.findIn K (.ref C_Goals) "ladder" = some none)
  (n_Goals_wanted : PySem.W.findIn K (.ref C_Goals) "wanted" = some none)
  (n_Goals_knows : PySem.W.findIn K (.ref C_Goals) "knows" = some none)
  (n_Goals_sides : PySem.W.findIn K (.ref C_Goals) "sides" = some none)
  (kp_Costs : PySem.W.keepIn K (.ref C_Costs) = true)
  (pg_Costs : PySem.W.plainGet K C_Costs Str.empty = true)
  (hd_Costs : PySem.W.hasDictIn K C_Costs = true)
  (po_Costs : PySem.W.plainOver K C_Costs = true)
  (sa_Costs : PySem.W.findIn K (.ref C_Costs) "__setattr__" = some (some (.builtin "object.__setattr__")))
  (mk_Costs : PySem.W.makesIn K C_Costs = true)
  (fn_Costsu_initu : PySem.W.isFn K (.ref f_Costsu_initu) = true)
  (fn_Costsu_equ : PySem.W.isFn K (.ref f_Costsu_equ) = true)
  (fn_Costs_added : PySem.W.isFn K (.ref f_Costs_added) = true)
  (fn_Costs_renumbered : PySem.W.isFn K (.ref f_Costs_renumbered) = true)
  (n_Costs_ladder : PySem.W.findIn K (.ref C_Costs) "ladder" = some none)
  (n_Costs_lines : PySem.W.findIn K (.ref C_Costs) "lines" = some none)
  (n_Costs_sides : PySem.W.findIn K (.ref C_Costs) "sides" = some none)
  (kp_Weights : PySem.W.keepIn K (.ref C_Weights) = true)
  (pg_Weights : PySem.W.plainGet K C_Weights Str.empty = true)
  (hd_Weights : PySem.W.hasDictIn K C_Weights = true)
  (po_Weights : PySem.W.plainOver K C_Weights = true)
  (sa_Weights : PySem.W.findIn K (.ref C_Weights) "__setattr__" = some (some (.builtin "object.__setattr__")))
  (mk_Weights : PySem.W.makesIn K C_Weights = true)
  (fn_Weightsu_initu : PySem.W.isFn K (.ref f_Weightsu_initu) = true)
  (fn_Weightsu_equ : PySem.W.isFn K (.ref f_Weightsu_equ) = true)
  (fn_Weights_plus : PySem.W.isFn K (.ref f_Weights_plus) = true)
  (fn_Weights_times : PySem.W.isFn K (.ref f_Weights_times) = true)
  (fn_Weights_renumbered : PySem.W.isFn K (.ref f_Weights_renumbered) = true)
  (n_Weights_lines : PySem.W.findIn K (.ref C_Weights) "lines" = some none)
  (n_Weights_sides : PySem.W.findIn K (.ref C_Weights) "sides" = some none)
  (z_ValueError : PySem.W.nsIn K mainGlobals "ValueError" = some none)
  (z_abs : PySem.W.nsIn K mainGlobals "abs" = some none)
  (z_all : PySem.W.nsIn K mainGlobals "all" = some none)
  (z_bool : PySem.W.nsIn K mainGlobals "bool" = some none)
  (z_enumerate : PySem.W.nsIn K mainGlobals "enumerate" = some none)
  (z_int : PySem.W.nsIn K mainGlobals "int" = some none)
  (z_isinstance : PySem.W.nsIn K mainGlobals "isinstance" = some none)
  (z_len : PySem.W.nsIn K mainGlobals "len" = some none)
  (z_list : PySem.W.nsIn K mainGlobals "list" = some none)
  (z_max : PySem.W.nsIn K mainGlobals "max" = some none)
  (z_min : PySem.W.nsIn K mainGlobals "min" = some none)
  (z_property : PySem.W.nsIn K mainGlobals "property" = some none)
  (z_range : PySem.W.nsIn K mainGlobals "range" = some none)
  (z_set : PySem.W.nsIn K mainGlobals "set" = some none)
  (z_sorted : PySem.W.nsIn K mainGlobals "sorted" = some none)
  (z_staticmethod : PySem.W.nsIn K mainGlobals "staticmethod" = some none)
  (z_sum : PySem.W.nsIn K mainGlobals "sum" = some none)
  (z_tuple : PySem.W.nsIn K mainGlobals "tuple" = some none)
  (z_zip : PySem.W.nsIn K mainGlobals "zip" = some none)
  (c_EAST : PySem.W.nsIn K mainGlobals "EAST" = some (some (.int (0) t_EAST)))
  (c_WEST : PySem.W.nsIn K mainGlobals "WEST" = some (some (.int (1) t_WEST)))
  (c_LADDER_MOST : PySem.W.nsIn K mainGlobals "LADDER_MOST" = some (some (.int (6) t_LADDER_MOST)))
  (c_KINDS_MOST : PySem.W.nsIn K mainGlobals "KINDS_MOST" = some (some (.int (6) t_KINDS_MOST)))
  (c_COUPLES_MOST : PySem.W.nsIn K mainGlobals "COUPLES_MOST" = some (some (.int (12) t_COUPLES_MOST)))
  (c_COST_MOST : PySem.W.nsIn K mainGlobals "COST_MOST" = some (some (.int (1000000) t_COST_MOST)))
  (c_TIMES_MOST : PySem.W.nsIn K mainGlobals "TIMES_MOST" = some (some (.int (1000) t_TIMES_MOST)))
  (zz_i_Weights_ca : PySem.W.findIn K (.ref C_Weights) "__class__" = some (some (.builtin "object.__class__")))
  (zz_i_Weights_cn : PySem.W.specialIn K (.builtin "object.__class__") "__get__" = some (some (.builtin "getset_descriptor.__get__")))
  (zz_i_Weights_ct : PySem.W.takesIn K (.builtin "object.__class__") = some true)
  (zz_i_Weights_cm : PySem.W.mroIn K C_Weights (.type "object") = some true)
  (zz_i_Weights_kt : PySem.W.kitOne K (.type "tuple") (.ref C_Weights) = some false)
  (zz_i_Weights_nt : PySem.W.notFirst K C_Weights (.type "tuple") = true)
  (zz_i_Weights_ne : PySem.W.findIn K (.ref C_Weights) "__ne__" = some (some (.builtin "object.__ne__")))
  (zz_i_Goals_ca : PySem.W.findIn K (.ref C_Goals) "__class__" = some (some (.builtin "object.__class__")))
  (zz_i_Goals_cn : PySem.W.specialIn K (.builtin "object.__class__") "__get__" = some (some (.builtin "getset_descriptor.__get__")))
  (zz_i_Goals_ct : PySem.W.takesIn K (.builtin "object.__class__") = some true)
  (zz_i_Goals_cm : PySem.W.mroIn K C_Goals (.type "object") = some true)
  (zz_i_Goals_kt : PySem.W.kitOne K (.type "tuple") (.ref C_Goals) = some false)
  (zz_i_Goals_nt : PySem.W.notFirst K C_Goals (.type "tuple") = true)
  (zz_i_Goals_ne : PySem.W.findIn K (.ref C_Goals) "__ne__" = some (some (.builtin "object.__ne__"))) :
    ∃ fd : FuncData, (∀ (s : Shared) (v : Value), BindsTo s fd ⟨[v], []⟩ [("_law_script", v)]) ∧ ∀ base : Heap, K.In base → base.Ns mainGlobals mg → FnOk P w K mg base CX0 10 fa fd ["_law_script"] (sp_law K) := by
  have e : f_law = fa := Value.ref.inj (Option.some.inj ((PySem.W.mg_of X G a_law).symm.trans hfa))
  subst e
  have F_BadGoalsu_initu := fun_mk (st := s_BadGoalsu_initu) l_BadGoalsu_initu c_BadGoalsu_initu k_BadGoalsu_initu
  have F_BadLotu_initu := fun_mk (st := s_BadLotu_initu) l_BadLotu_initu c_BadLotu_initu k_BadLotu_initu
  have F_NotAlikeu_initu := fun_mk (st := s_NotAlikeu_initu) l_NotAlikeu_initu c_NotAlikeu_initu k_NotAlikeu_initu
  have F_BadCostsu_initu := fun_mk (st := s_BadCostsu_initu) l_BadCostsu_initu c_BadCostsu_initu k_BadCostsu_initu
  have F_BadWeightsu_initu := fun_mk (st := s_BadWeightsu_initu) l_BadWeightsu_initu c_BadWeightsu_initu k_BadWeightsu_initu
  have F_is_whole : FunD K "is_whole" "is_whole" (defArgs s_is_whole) (defBody s_is_whole) (defScope s_is_whole) [.non, .non] [] f_is_whole (PySem.W.fnOf "is_whole" "is_whole" (defArgs s_is_whole) (defBody s_is_whole) (defScope s_is_whole) (.ref q_is_whole) kV_is_whole dc_is_whole pm_is_whole an_is_whole cd_is_whole ct_is_whole) := ⟨⟨oc_is_whole, od_is_whole, _, kV_is_whole, dc_is_whole, pm_is_whole, an_is_whole, cd_is_whole, ct_is_whole, sl_is_whole, rfl, l_is_whole, c_is_whole, .inr ⟨by simp, q_is_whole, _, [Value.none, Value.none], qn_is_whole, rfl, t_is_whole, rfl, (.cons rfl (.cons rfl .nil))⟩, .inl rfl⟩, k_is_whole⟩
  have F_is_truth := fun_mk (st := s_is_truth) l_is_truth c_is_truth k_is_truth
  have F_is_sequence := fun_mk (st := s_is_sequence) l_is_sequence c_is_sequence k_is_sequence
  have F_check_side := fun_mk (st := s_check_side) l_check_side c_check_side k_check_side
  have F_are_sides := fun_mk (st := s_are_sides) l_are_sides c_are_sides k_are_sides
  have F_couples_of := fun_mk (st := s_couples_of) l_couples_of c_couples_of k_couples_of
  have F_are_kinds := fun_mk (st := s_are_kinds) l_are_kinds c_are_kinds k_are_kinds
  have F_is_order := fun_mk (st := s_is_order) l_is_order c_is_order k_is_order
  have F_check_side_order := fun_mk (st := s_check_side_order) l_check_side_order c_check_side_order k_check_side_order
  have F_sides_of_lines := fun_mk (st := s_sides_of_lines) l_sides_of_lines c_sides_of_lines k_sides_of_lines
  have F_renumbered_lines := fun_mk (st := s_renumbered_lines) l_renumbered_lines c_renumbered_lines k_renumbered_lines
  have F_are_ends := fun_mk (st := s_are_ends) l_are_ends c_are_ends k_are_ends
  have F_is_knowing := fun_mk (st := s_is_knowing) l_is_knowing c_is_knowing k_is_knowing
  have F_Goalsu_initu : FunD K "__init__" "Goals.__init__" (defArgs s_Goalsu_initu) (defBody s_Goalsu_initu) (defScope s_Goalsu_initu) [(.ref w0_Goalsu_initu)] [] f_Goalsu_initu (PySem.W.fnOf "__init__" "Goals.__init__" (defArgs s_Goalsu_initu) (defBody s_Goalsu_initu) (defScope s_Goalsu_initu) (.ref q_Goalsu_initu) kV_Goalsu_initu dc_Goalsu_initu pm_Goalsu_initu an_Goalsu_initu cd_Goalsu_initu ct_Goalsu_initu) := ⟨⟨oc_Goalsu_initu, od_Goalsu_initu, _, kV_Goalsu_initu, dc_Goalsu_initu, pm_Goalsu_initu, an_Goalsu_initu, cd_Goalsu_initu, ct_Goalsu_initu, sl_Goalsu_initu, rfl, l_Goalsu_initu, c_Goalsu_initu, .inr ⟨by simp, q_Goalsu_initu, _, [Value.ref w0_Goalsu_initu], qn_Goalsu_initu, rfl, t_Goalsu_initu, rfl, (.cons rfl .nil)⟩, .inl rfl⟩, k_Goalsu_initu⟩
  have F_Goalsu_equ := fun_mk (st := s_Goalsu_equ) l_Goalsu_equ c_Goalsu_equ k_Goalsu_equ
  have F_Goals_renumbered := fun_mk (st := s_Goals_renumbered) l_Goals_renumbered c_Goals_renumbered k_Goals_renumbered
  have F_is_entry := fun_mk (st := s_is_entry) l_is_entry c_is_entry k_is_entry
  have F_Costsu_initu := fun_mk (st := s_Costsu_initu) l_Costsu_initu c_Costsu_initu k_Costsu_initu
  have F_Costsu_equ := fun_mk (st := s_Costsu_equ) l_Costsu_equ c_Costsu_equ k_Costsu_equ
  have F_Costs_added := fun_mk (st := s_Costs_added) l_Costs_added c_Costs_added k_Costs_added
  have F_Costs_renumbered := fun_mk (st := s_Costs_renumbered) l_Costs_renumbered c_Costs_renumbered k_Costs_renumbered
  have F_Weightsu_initu := fun_mk (st := s_Weightsu_initu) l_Weightsu_initu c_Weightsu_initu k_Weightsu_initu
  have F_Weightsu_equ := fun_mk (st := s_Weightsu_equ) l_Weightsu_equ c_Weightsu_equ k_Weightsu_equ
  have F_Weights_weight_sum := fun_mk (st := s_Weights_weight_sum) l_Weights_weight_sum c_Weights_weight_sum k_Weights_weight_sum
  have F_Weights_even := fun_mk (st := s_Weights_even) l_Weights_even c_Weights_even k_Weights_even
  have F_Weights_plus := fun_mk (st := s_Weights_plus) l_Weights_plus c_Weights_plus k_Weights_plus
  have F_Weights_times := fun_mk (st := s_Weights_times) l_Weights_times c_Weights_times k_Weights_times
  have F_Weights_renumbered := fun_mk (st := s_Weights_renumbered) l_Weights_renumbered c_Weights_renumbered k_Weights_renumbered
  have F_check_weights := fun_mk (st := s_check_weights) l_check_weights c_check_weights k_check_weights
  have F_ends_up_to := fun_mk (st := s_ends_up_to) l_ends_up_to c_ends_up_to k_ends_up_to
  have F_floor_of := fun_mk (st := s_floor_of) l_floor_of c_floor_of k_floor_of
  have F_cheapest_goals := fun_mk (st := s_cheapest_goals) l_cheapest_goals c_cheapest_goals k_cheapest_goals
  have F_as_goals := fun_mk (st := s_as_goals) l_as_goals c_as_goals k_as_goals
  have F_Lmix := fun_mk (st := s_Lmix) l_Lmix c_Lmix k_Lmix
  have F_Lhand := fun_mk (st := s_Lhand) l_Lhand c_Lhand k_Lhand
  have F_Ldraw := fun_mk (st := s_Ldraw) l_Ldraw c_Ldraw k_Ldraw
  have F_Lwhole := fun_mk (st := s_Lwhole) l_Lwhole c_Lwhole k_Lwhole
  have F_Lshape := fun_mk (st := s_Lshape) l_Lshape c_Lshape k_Lshape
  have F_Ldrawn := fun_mk (st := s_Ldrawn) l_Ldrawn c_Ldrawn k_Ldrawn
  have F_Ltuples := fun_mk (st := s_Ltuples) l_Ltuples c_Ltuples k_Ltuples
  have F_Ldue := fun_mk (st := s_Ldue) l_Ldue c_Ldue k_Ldue
  have F_Lmade := fun_mk (st := s_Lmade) l_Lmade c_Lmade k_Lmade
  have F_Lmade_due := fun_mk (st := s_Lmade_due) l_Lmade_due c_Lmade_due k_Lmade_due
  have F_Lspoil := fun_mk (st := s_Lspoil) l_Lspoil c_Lspoil k_Lspoil
  have F_Lplus := fun_mk (st := s_Lplus) l_Lplus c_Lplus k_Lplus
  have F_Ltimes := fun_mk (st := s_Ltimes) l_Ltimes c_Ltimes k_Ltimes
  have F_Leven := fun_mk (st := s_Leven) l_Leven c_Leven k_Leven
  have F_Lrenumbered := fun_mk (st := s_Lrenumbered) l_Lrenumbered c_Lrenumbered k_Lrenumbered
  have F_Ladded_due := fun_mk (st := s_Ladded_due) l_Ladded_due c_Ladded_due k_Ladded_due
  have F_Lorder := fun_mk (st := s_Lorder) l_Lorder c_Lorder k_Lorder
  have F_Lweights := fun_mk (st := s_Lweights) l_Lweights c_Lweights k_Lweights
  have F_Lturned := fun_mk (st := s_Lturned) l_Lturned c_Lturned k_Lturned
  have F_Lcosts := fun_mk (st := s_Lcosts) l_Lcosts c_Lcosts k_Lcosts
  have F_Lup_to := fun_mk (st := s_Lup_to) l_Lup_to c_Lup_to k_Lup_to
  have F_Las_goals := fun_mk (st := s_Las_goals) l_Las_goals c_Las_goals k_Las_goals
  have F_Lgoals := fun_mk (st := s_Lgoals) l_Lgoals c_Lgoals k_Lgoals
  have F_Lunlike := fun_mk (st := s_Lunlike) l_Lunlike c_Lunlike k_Lunlike
  have F_Lcase := fun_mk (st := s_Lcase) l_Lcase c_Lcase k_Lcase
  have F_law := fun_mk (st := s_law) l_law c_law k_law
  let T : Tx := {
    f_BadGoalsu_initu := f_BadGoalsu_initu,
    d_BadGoalsu_initu := PySem.W.fnOf "__init__" "BadGoals.__init__" (defArgs s_BadGoalsu_initu) (defBody s_BadGoalsu_initu) (defScope s_BadGoalsu_initu) .none kV_BadGoalsu_initu dc_BadGoalsu_initu pm_BadGoalsu_initu an_BadGoalsu_initu cd_BadGoalsu_initu ct_BadGoalsu_initu,
    f_BadLotu_initu := f_BadLotu_initu,
    d_BadLotu_initu := PySem.W.fnOf "__init__" "BadLot.__init__" (defArgs s_BadLotu_initu) (defBody s_BadLotu_initu) (defScope s_BadLotu_initu) .none kV_BadLotu_initu dc_BadLotu_initu pm_BadLotu_initu an_BadLotu_initu cd_BadLotu_initu ct_BadLotu_initu,
    f_NotAlikeu_initu := f_NotAlikeu_initu,
    d_NotAlikeu_initu := PySem.W.fnOf "__init__" "NotAlike.__init__" (defArgs s_NotAlikeu_initu) (defBody s_NotAlikeu_initu) (defScope s_NotAlikeu_initu) .none kV_NotAlikeu_initu dc_NotAlikeu_initu pm_NotAlikeu_initu an_NotAlikeu_initu cd_NotAlikeu_initu ct_NotAlikeu_initu,
    f_BadCostsu_initu := f_BadCostsu_initu,
    d_BadCostsu_initu := PySem.W.fnOf "__init__" "BadCosts.__init__" (defArgs s_BadCostsu_initu) (defBody s_BadCostsu_initu) (defScope s_BadCostsu_initu) .none kV_BadCostsu_initu dc_BadCostsu_initu pm_BadCostsu_initu an_BadCostsu_initu cd_BadCostsu_initu ct_BadCostsu_initu,
    f_BadWeightsu_initu := f_BadWeightsu_initu,
    d_BadWeightsu_initu := PySem.W.fnOf "__init__" "BadWeights.__init__" (defArgs s_BadWeightsu_initu) (defBody s_BadWeightsu_initu) (defScope s_BadWeightsu_initu) .none kV_BadWeightsu_initu dc_BadWeightsu_initu pm_BadWeightsu_initu an_BadWeightsu_initu cd_BadWeightsu_initu ct_BadWeightsu_initu,
    f_is_whole := f_is_whole,
    d_is_whole := PySem.W.fnOf "is_whole" "is_whole" (defArgs s_is_whole) (defBody s_is_whole) (defScope s_is_whole) (.ref q_is_whole) kV_is_whole dc_is_whole pm_is_whole an_is_whole cd_is_whole ct_is_whole,
    e1_is_whole := [Value.none],
    e2_is_whole := [Value.none, Value.none],
    f_is_truth := f_is_truth,
    d_is_truth := PySem.W.fnOf "is_truth" "is_truth" (defArgs s_is_truth) (defBody s_is_truth) (defScope s_is_truth) .none kV_is_truth dc_is_truth pm_is_truth an_is_truth cd_is_truth ct_is_truth,
    f_is_sequence := f_is_sequence,
    d_is_sequence := PySem.W.fnOf "is_sequence" "is_sequence" (defArgs s_is_sequence) (defBody s_is_sequence) (defScope s_is_sequence) .none kV_is_sequence dc_is_sequence pm_is_sequence an_is_sequence cd_is_sequence ct_is_sequence,
    f_check_side := f_check_side,
    d_check_side := PySem.W.fnOf "check_side" "check_side" (defArgs s_check_side) (defBody s_check_side) (defScope s_check_side) .none kV_check_side dc_check_side pm_check_side an_check_side cd_check_side ct_check_side,
    f_are_sides := f_are_sides,
    d_are_sides := PySem.W.fnOf "are_sides" "are_sides" (defArgs s_are_sides) (defBody s_are_sides) (defScope s_are_sides) .none kV_are_sides dc_are_sides pm_are_sides an_are_sides cd_are_sides ct_are_sides,
    f_couples_of := f_couples_of,
    d_couples_of := PySem.W.fnOf "couples_of" "couples_of" (defArgs s_couples_of) (defBody s_couples_of) (defScope s_couples_of) .none kV_couples_of dc_couples_of pm_couples_of an_couples_of cd_couples_of ct_couples_of,
    f_are_kinds := f_are_kinds,
    d_are_kinds := PySem.W.fnOf "are_kinds" "are_kinds" (defArgs s_are_kinds) (defBody s_are_kinds) (defScope s_are_kinds) .none kV_are_kinds dc_are_kinds pm_are_kinds an_are_kinds cd_are_kinds ct_are_kinds,
    f_is_order := f_is_order,
    d_is_order := PySem.W.fnOf "is_order" "is_order" (defArgs s_is_order) (defBody s_is_order) (defScope s_is_order) .none kV_is_order dc_is_order pm_is_order an_is_order cd_is_order ct_is_order,
    f_check_side_order := f_check_side_order,
    d_check_side_order := PySem.W.fnOf "check_side_order" "check_side_order" (defArgs s_check_side_order) (defBody s_check_side_order) (defScope s_check_side_order) .none kV_check_side_order dc_check_side_order pm_check_side_order an_check_side_order cd_check_side_order ct_check_side_order,
    f_sides_of_lines := f_sides_of_lines,
    d_sides_of_lines := PySem.W.fnOf "sides_of_lines" "sides_of_lines" (defArgs s_sides_of_lines) (defBody s_sides_of_lines) (defScope s_sides_of_lines) .none kV_sides_of_lines dc_sides_of_lines pm_sides_of_lines an_sides_of_lines cd_sides_of_lines ct_sides_of_lines,
    f_renumbered_lines := f_renumbered_lines,
    d_renumbered_lines := PySem.W.fnOf "renumbered_lines" "renumbered_lines" (defArgs s_renumbered_lines) (defBody s_renumbered_lines) (defScope s_renumbered_lines) .none kV_renumbered_lines dc_renumbered_lines pm_renumbered_lines an_renumbered_lines cd_renumbered_lines ct_renumbered_lines,
    f_are_ends := f_are_ends,
    d_are_ends := PySem.W.fnOf "are_ends" "are_ends" (defArgs s_are_ends) (defBody s_are_ends) (defScope s_are_ends) .none kV_are_ends dc_are_ends pm_are_ends an_are_ends cd_are_ends ct_are_ends,
    f_is_knowing := f_is_knowing,
    d_is_knowing := PySem.W.fnOf "is_knowing" "is_knowing" (defArgs s_is_knowing) (defBody s_is_knowing) (defScope s_is_knowing) .none kV_is_knowing dc_is_knowing pm_is_knowing an_is_knowing cd_is_knowing ct_is_knowing,
    f_Goalsu_initu := f_Goalsu_initu,
    d_Goalsu_initu := PySem.W.fnOf "__init__" "Goals.__init__" (defArgs s_Goalsu_initu) (defBody s_Goalsu_initu) (defScope s_Goalsu_initu) (.ref q_Goalsu_initu) kV_Goalsu_initu dc_Goalsu_initu pm_Goalsu_initu an_Goalsu_initu cd_Goalsu_initu ct_Goalsu_initu,
    w0_Goalsu_initu := w0_Goalsu_initu,
    e1_Goalsu_initu := [Value.ref w0_Goalsu_initu],
    f_Goalsu_equ := f_Goalsu_equ,
    d_Goalsu_equ := PySem.W.fnOf "__eq__" "Goals.__eq__" (defArgs s_Goalsu_equ) (defBody s_Goalsu_equ) (defScope s_Goalsu_equ) .none kV_Goalsu_equ dc_Goalsu_equ pm_Goalsu_equ an_Goalsu_equ cd_Goalsu_equ ct_Goalsu_equ,
    f_Goals_renumbered := f_Goals_renumbered,
    d_Goals_renumbered := PySem.W.fnOf "renumbered" "Goals.renumbered" (defArgs s_Goals_renumbered) (defBody s_Goals_renumbered) (defScope s_Goals_renumbered) .none kV_Goals_renumbered dc_Goals_renumbered pm_Goals_renumbered an_Goals_renumbered cd_Goals_renumbered ct_Goals_renumbered,
    f_is_entry := f_is_entry,
    d_is_entry := PySem.W.fnOf "is_entry" "is_entry" (defArgs s_is_entry) (defBody s_is_entry) (defScope s_is_entry) .none kV_is_entry dc_is_entry pm_is_entry an_is_entry cd_is_entry ct_is_entry,
    f_Costsu_initu := f_Costsu_initu,
    d_Costsu_initu := PySem.W.fnOf "__init__" "Costs.__init__" (defArgs s_Costsu_initu) (defBody s_Costsu_initu) (defScope s_Costsu_initu) .none kV_Costsu_initu dc_Costsu_initu pm_Costsu_initu an_Costsu_initu cd_Costsu_initu ct_Costsu_initu,
    f_Costsu_equ := f_Costsu_equ,
    d_Costsu_equ := PySem.W.fnOf "__eq__" "Costs.__eq__" (defArgs s_Costsu_equ) (defBody s_Costsu_equ) (defScope s_Costsu_equ) .none kV_Costsu_equ dc_Costsu_equ pm_Costsu_equ an_Costsu_equ cd_Costsu_equ ct_Costsu_equ,
    f_Costs_added := f_Costs_added,
    d_Costs_added := PySem.W.fnOf "added" "Costs.added" (defArgs s_Costs_added) (defBody s_Costs_added) (defScope s_Costs_added) .none kV_Costs_added dc_Costs_added pm_Costs_added an_Costs_added cd_Costs_added ct_Costs_added,
    f_Costs_renumbered := f_Costs_renumbered,
    d_Costs_renumbered := PySem.W.fnOf "renumbered" "Costs.renumbered" (defArgs s_Costs_renumbered) (defBody s_Costs_renumbered) (defScope s_Costs_renumbered) .none kV_Costs_renumbered dc_Costs_renumbered pm_Costs_renumbered an_Costs_renumbered cd_Costs_renumbered ct_Costs_renumbered,
    f_Weightsu_initu := f_Weightsu_initu,
    d_Weightsu_initu := PySem.W.fnOf "__init__" "Weights.__init__" (defArgs s_Weightsu_initu) (defBody s_Weightsu_initu) (defScope s_Weightsu_initu) .none kV_Weightsu_initu dc_Weightsu_initu pm_Weightsu_initu an_Weightsu_initu cd_Weightsu_initu ct_Weightsu_initu,
    f_Weightsu_equ := f_Weightsu_equ,
    d_Weightsu_equ := PySem.W.fnOf "__eq__" "Weights.__eq__" (defArgs s_Weightsu_equ) (defBody s_Weightsu_equ) (defScope s_Weightsu_equ) .none kV_Weightsu_equ dc_Weightsu_equ pm_Weightsu_equ an_Weightsu_equ cd_Weightsu_equ ct_Weightsu_equ,
    p_Weights_weight_sum := p_Weights_weight_sum,
    f_Weights_weight_sum := f_Weights_weight_sum,
    d_Weights_weight_sum := PySem.W.fnOf "weight_sum" "Weights.weight_sum" (defArgs s_Weights_weight_sum) (defBody s_Weights_weight_sum) (defScope s_Weights_weight_sum) .none kV_Weights_weight_sum dc_Weights_weight_sum pm_Weights_weight_sum an_Weights_weight_sum cd_Weights_weight_sum ct_Weights_weight_sum,
    p_Weights_even := p_Weights_even,
    f_Weights_even := f_Weights_even,
    d_Weights_even := PySem.W.fnOf "even" "Weights.even" (defArgs s_Weights_even) (defBody s_Weights_even) (defScope s_Weights_even) .none kV_Weights_even dc_Weights_even pm_Weights_even an_Weights_even cd_Weights_even ct_Weights_even,
    f_Weights_plus := f_Weights_plus,
    d_Weights_plus := PySem.W.fnOf "plus" "Weights.plus" (defArgs s_Weights_plus) (defBody s_Weights_plus) (defScope s_Weights_plus) .none kV_Weights_plus dc_Weights_plus pm_Weights_plus an_Weights_plus cd_Weights_plus ct_Weights_plus,
    f_Weights_times := f_Weights_times,
    d_Weights_times := PySem.W.fnOf "times" "Weights.times" (defArgs s_Weights_times) (defBody s_Weights_times) (defScope s_Weights_times) .none kV_Weights_times dc_Weights_times pm_Weights_times an_Weights_times cd_Weights_times ct_Weights_times,
    f_Weights_renumbered := f_Weights_renumbered,
    d_Weights_renumbered := PySem.W.fnOf "renumbered" "Weights.renumbered" (defArgs s_Weights_renumbered) (defBody s_Weights_renumbered) (defScope s_Weights_renumbered) .none kV_Weights_renumbered dc_Weights_renumbered pm_Weights_renumbered an_Weights_renumbered cd_Weights_renumbered ct_Weights_renumbered,
    f_check_weights := f_check_weights,
    d_check_weights := PySem.W.fnOf "check_weights" "check_weights" (defArgs s_check_weights) (defBody s_check_weights) (defScope s_check_weights) .none kV_check_weights dc_check_weights pm_check_weights an_check_weights cd_check_weights ct_check_weights,
    f_ends_up_to := f_ends_up_to,
    d_ends_up_to := PySem.W.fnOf "ends_up_to" "ends_up_to" (defArgs s_ends_up_to) (defBody s_ends_up_to) (defScope s_ends_up_to) .none kV_ends_up_to dc_ends_up_to pm_ends_up_to an_ends_up_to cd_ends_up_to ct_ends_up_to,
    f_floor_of := f_floor_of,
    d_floor_of := PySem.W.fnOf "floor_of" "floor_of" (defArgs s_floor_of) (defBody s_floor_of) (defScope s_floor_of) .none kV_floor_of dc_floor_of pm_floor_of an_floor_of cd_floor_of ct_floor_of,
    f_cheapest_goals := f_cheapest_goals,
    d_cheapest_goals := PySem.W.fnOf "cheapest_goals" "cheapest_goals" (defArgs s_cheapest_goals) (defBody s_cheapest_goals) (defScope s_cheapest_goals) .none kV_cheapest_goals dc_cheapest_goals pm_cheapest_goals an_cheapest_goals cd_cheapest_goals ct_cheapest_goals,
    f_as_goals := f_as_goals,
    d_as_goals := PySem.W.fnOf "as_goals" "as_goals" (defArgs s_as_goals) (defBody s_as_goals) (defScope s_as_goals) .none kV_as_goals dc_as_goals pm_as_goals an_as_goals cd_as_goals ct_as_goals,
    f_Lmix := f_Lmix,
    d_Lmix := PySem.W.fnOf "_law_mix" "_law_mix" (defArgs s_Lmix) (defBody s_Lmix) (defScope s_Lmix) .none kV_Lmix dc_Lmix pm_Lmix an_Lmix cd_Lmix ct_Lmix,
    f_Lhand := f_Lhand,
    d_Lhand := PySem.W.fnOf "_law_hand" "_law_hand" (defArgs s_Lhand) (defBody s_Lhand) (defScope s_Lhand) .none kV_Lhand dc_Lhand pm_Lhand an_Lhand cd_Lhand ct_Lhand,
    f_Ldraw := f_Ldraw,
    d_Ldraw := PySem.W.fnOf "_law_draw" "_law_draw" (defArgs s_Ldraw) (defBody s_Ldraw) (defScope s_Ldraw) .none kV_Ldraw dc_Ldraw pm_Ldraw an_Ldraw cd_Ldraw ct_Ldraw,
    f_Lwhole := f_Lwhole,
    d_Lwhole := PySem.W.fnOf "_law_whole" "_law_whole" (defArgs s_Lwhole) (defBody s_Lwhole) (defScope s_Lwhole) .none kV_Lwhole dc_Lwhole pm_Lwhole an_Lwhole cd_Lwhole ct_Lwhole,
    f_Lshape := f_Lshape,
    d_Lshape := PySem.W.fnOf "_law_shape" "_law_shape" (defArgs s_Lshape) (defBody s_Lshape) (defScope s_Lshape) .none kV_Lshape dc_Lshape pm_Lshape an_Lshape cd_Lshape ct_Lshape,
    f_Ldrawn := f_Ldrawn,
    d_Ldrawn := PySem.W.fnOf "_law_drawn" "_law_drawn" (defArgs s_Ldrawn) (defBody s_Ldrawn) (defScope s_Ldrawn) .none kV_Ldrawn dc_Ldrawn pm_Ldrawn an_Ldrawn cd_Ldrawn ct_Ldrawn,
    f_Ltuples := f_Ltuples,
    d_Ltuples := PySem.W.fnOf "_law_tuples" "_law_tuples" (defArgs s_Ltuples) (defBody s_Ltuples) (defScope s_Ltuples) .none kV_Ltuples dc_Ltuples pm_Ltuples an_Ltuples cd_Ltuples ct_Ltuples,
    f_Ldue := f_Ldue,
    d_Ldue := PySem.W.fnOf "_law_due" "_law_due" (defArgs s_Ldue) (defBody s_Ldue) (defScope s_Ldue) .none kV_Ldue dc_Ldue pm_Ldue an_Ldue cd_Ldue ct_Ldue,
    f_Lmade := f_Lmade,
    d_Lmade := PySem.W.fnOf "_law_made" "_law_made" (defArgs s_Lmade) (defBody s_Lmade) (defScope s_Lmade) .none kV_Lmade dc_Lmade pm_Lmade an_Lmade cd_Lmade ct_Lmade,
    f_Lmade_due := f_Lmade_due,
    d_Lmade_due := PySem.W.fnOf "_law_made_due" "_law_made_due" (defArgs s_Lmade_due) (defBody s_Lmade_due) (defScope s_Lmade_due) .none kV_Lmade_due dc_Lmade_due pm_Lmade_due an_Lmade_due cd_Lmade_due ct_Lmade_due,
    f_Lspoil := f_Lspoil,
    d_Lspoil := PySem.W.fnOf "_law_spoil" "_law_spoil" (defArgs s_Lspoil) (defBody s_Lspoil) (defScope s_Lspoil) .none kV_Lspoil dc_Lspoil pm_Lspoil an_Lspoil cd_Lspoil ct_Lspoil,
    f_Lplus := f_Lplus,
    d_Lplus := PySem.W.fnOf "_law_plus" "_law_plus" (defArgs s_Lplus) (defBody s_Lplus) (defScope s_Lplus) .none kV_Lplus dc_Lplus pm_Lplus an_Lplus cd_Lplus ct_Lplus,
    f_Ltimes := f_Ltimes,
    d_Ltimes := PySem.W.fnOf "_law_times" "_law_times" (defArgs s_Ltimes) (defBody s_Ltimes) (defScope s_Ltimes) .none kV_Ltimes dc_Ltimes pm_Ltimes an_Ltimes cd_Ltimes ct_Ltimes,
    f_Leven := f_Leven,
    d_Leven := PySem.W.fnOf "_law_even" "_law_even" (defArgs s_Leven) (defBody s_Leven) (defScope s_Leven) .none kV_Leven dc_Leven pm_Leven an_Leven cd_Leven ct_Leven,
    f_Lrenumbered := f_Lrenumbered,
    d_Lrenumbered := PySem.W.fnOf "_law_renumbered" "_law_renumbered" (defArgs s_Lrenumbered) (defBody s_Lrenumbered) (defScope s_Lrenumbered) .none kV_Lrenumbered dc_Lrenumbered pm_Lrenumbered an_Lrenumbered cd_Lrenumbered ct_Lrenumbered,
    f_Ladded_due := f_Ladded_due,
    d_Ladded_due := PySem.W.fnOf "_law_added_due" "_law_added_due" (defArgs s_Ladded_due) (defBody s_Ladded_due) (defScope s_Ladded_due) .none kV_Ladded_due dc_Ladded_due pm_Ladded_due an_Ladded_due cd_Ladded_due ct_Ladded_due,
    f_Lorder := f_Lorder,
    d_Lorder := PySem.W.fnOf "_law_order" "_law_order" (defArgs s_Lorder) (defBody s_Lorder) (defScope s_Lorder) .none kV_Lorder dc_Lorder pm_Lorder an_Lorder cd_Lorder ct_Lorder,
    f_Lweights := f_Lweights,
    d_Lweights := PySem.W.fnOf "_law_weights" "_law_weights" (defArgs s_Lweights) (defBody s_Lweights) (defScope s_Lweights) .none kV_Lweights dc_Lweights pm_Lweights an_Lweights cd_Lweights ct_Lweights,
    f_Lturned := f_Lturned,
    d_Lturned := PySem.W.fnOf "_law_turned" "_law_turned" (defArgs s_Lturned) (defBody s_Lturned) (defScope s_Lturned) .none kV_Lturned dc_Lturned pm_Lturned an_Lturned cd_Lturned ct_Lturned,
    f_Lcosts := f_Lcosts,
    d_Lcosts := PySem.W.fnOf "_law_costs" "_law_costs" (defArgs s_Lcosts) (defBody s_Lcosts) (defScope s_Lcosts) .none kV_Lcosts dc_Lcosts pm_Lcosts an_Lcosts cd_Lcosts ct_Lcosts,
    f_Lup_to := f_Lup_to,
    d_Lup_to := PySem.W.fnOf "_law_up_to" "_law_up_to" (defArgs s_Lup_to) (defBody s_Lup_to) (defScope s_Lup_to) .none kV_Lup_to dc_Lup_to pm_Lup_to an_Lup_to cd_Lup_to ct_Lup_to,
    f_Las_goals := f_Las_goals,
    d_Las_goals := PySem.W.fnOf "_law_as_goals" "_law_as_goals" (defArgs s_Las_goals) (defBody s_Las_goals) (defScope s_Las_goals) .none kV_Las_goals dc_Las_goals pm_Las_goals an_Las_goals cd_Las_goals ct_Las_goals,
    f_Lgoals := f_Lgoals,
    d_Lgoals := PySem.W.fnOf "_law_goals" "_law_goals" (defArgs s_Lgoals) (defBody s_Lgoals) (defScope s_Lgoals) .none kV_Lgoals dc_Lgoals pm_Lgoals an_Lgoals cd_Lgoals ct_Lgoals,
    f_Lunlike := f_Lunlike,
    d_Lunlike := PySem.W.fnOf "_law_unlike" "_law_unlike" (defArgs s_Lunlike) (defBody s_Lunlike) (defScope s_Lunlike) .none kV_Lunlike dc_Lunlike pm_Lunlike an_Lunlike cd_Lunlike ct_Lunlike,
    f_Lcase := f_Lcase,
    d_Lcase := PySem.W.fnOf "_law_case" "_law_case" (defArgs s_Lcase) (defBody s_Lcase) (defScope s_Lcase) .none kV_Lcase dc_Lcase pm_Lcase an_Lcase cd_Lcase ct_Lcase,
    f_law := f_law,
    d_law := PySem.W.fnOf "law" "law" (defArgs s_law) (defBody s_law) (defScope s_law) .none kV_law dc_law pm_law an_law cd_law ct_law,
    C_CallError := C_CallError,
    C_BadGoals := C_BadGoals,
    C_BadLot := C_BadLot,
    C_BadSide := C_BadSide,
    C_NotAlike := C_NotAlike,
    C_BadCosts := C_BadCosts,
    C_BadWeights := C_BadWeights,
    C_Goals := C_Goals,
    C_Costs := C_Costs,
    C_Weights := C_Weights,
    t_EAST := t_EAST,
    t_WEST := t_WEST,
    t_LADDER_MOST := t_LADDER_MOST,
    t_KINDS_MOST := t_KINDS_MOST,
    t_COUPLES_MOST := t_COUPLES_MOST,
    t_COST_MOST := t_COST_MOST,
    t_TIMES_MOST := t_TIMES_MOST }
  have O : Ok K mg T := {
    F_BadGoalsu_initu := F_BadGoalsu_initu,
    b_BadGoalsu_initu := F_BadGoalsu_initu.binds (ps := ["self", "what"]) fun _ _ _ _ _ _ us hl => match us, hl with | [_, _], _ => rfl,
    F_BadLotu_initu := F_BadLotu_initu,
    b_BadLotu_initu := F_BadLotu_initu.binds (ps := ["self", "side"]) fun _ _ _ _ _ _ us hl => match us, hl with | [_, _], _ => rfl,
    F_NotAlikeu_initu := F_NotAlikeu_initu,
    b_NotAlikeu_initu := F_NotAlikeu_initu.binds (ps := ["self", "what"]) fun _ _ _ _ _ _ us hl => match us, hl with | [_, _], _ => rfl,
    F_BadCostsu_initu := F_BadCostsu_initu,
    b_BadCostsu_initu := F_BadCostsu_initu.binds (ps := ["self", "what"]) fun _ _ _ _ _ _ us hl => match us, hl with | [_, _], _ => rfl,
    F_BadWeightsu_initu := F_BadWeightsu_initu,
    b_BadWeightsu_initu := F_BadWeightsu_initu.binds (ps := ["self", "what"]) fun _ _ _ _ _ _ us hl => match us, hl with | [_, _], _ => rfl,
    F_is_whole := F_is_whole,
    b_is_whole := Jv.bindsD (K := K) (T := q_is_whole) (m := 3) t_is_whole rfl rfl fun us hl => match us, hl with | [_, _, _], _ => ⟨_, rfl, rfl⟩,
    b1_is_whole := ⟨(.cons rfl .nil), Jv.bindsD (K := K) (T := q_is_whole) (m := 2) t_is_whole rfl rfl fun us hl => match us, hl with | [_, _], _ => ⟨_, rfl, rfl⟩⟩,
    b2_is_whole := ⟨(.cons rfl (.cons rfl .nil)), Jv.bindsD (K := K) (T := q_is_whole) (m := 1) t_is_whole rfl rfl fun us hl => match us, hl with | [_], _ => ⟨_, rfl, rfl⟩⟩,
    m_is_whole := PySem.W.mg_of X G a_is_whole,
    F_is_truth := F_is_truth,
    b_is_truth := F_is_truth.binds (ps := ["thing"]) fun _ _ _ _ _ _ us hl => match us, hl with | [_], _ => rfl,
    m_is_truth := PySem.W.mg_of X G a_is_truth,
    F_is_sequence := F_is_sequence,
    b_is_sequence := F_is_sequence.binds (ps := ["thing"]) fun _ _ _ _ _ _ us hl => match us, hl with | [_], _ => rfl,
    m_is_sequence := PySem.W.mg_of X G a_is_sequence,
    F_check_side := F_check_side,
    b_check_side := F_check_side.binds (ps := ["side"]) fun _ _ _ _ _ _ us hl => match us, hl with | [_], _ => rfl,
    m_check_side := PySem.W.mg_of X G a_check_side,
    F_are_sides := F_are_sides,
    b_are_sides := F_are_sides.binds (ps := ["thing"]) fun _ _ _ _ _ _ us hl => match us, hl with | [_], _ => rfl,
    m_are_sides := PySem.W.mg_of X G a_are_sides,
    F_couples_of := F_couples_of,
    b_couples_of := F_couples_of.binds (ps := ["sides"]) fun _ _ _ _ _ _ us hl => match us, hl with | [_], _ => rfl,
    m_couples_of := PySem.W.mg_of X G a_couples_of,
    F_are_kinds := F_are_kinds,
    b_are_kinds := F_are_kinds.binds (ps := ["thing", "kinds"]) fun _ _ _ _ _ _ us hl => match us, hl with | [_, _], _ => rfl,
    m_are_kinds := PySem.W.mg_of X G a_are_kinds,
    F_is_order := F_is_order,
    b_is_order := F_is_order.binds (ps := ["thing", "many"]) fun _ _ _ _ _ _ us hl => match us, hl with | [_, _], _ => rfl,
    m_is_order := PySem.W.mg_of X G a_is_order,
    F_check_side_order := F_check_side_order,
    b_check_side_order := F_check_side_order.binds (ps := ["order", "kinds", "side"]) fun _ _ _ _ _ _ us hl => match us, hl with | [_, _, _], _ => rfl,
    m_check_side_order := PySem.W.mg_of X G a_check_side_order,
    F_sides_of_lines := F_sides_of_lines,
    b_sides_of_lines := F_sides_of_lines.binds (ps := ["lines"]) fun _ _ _ _ _ _ us hl => match us, hl with | [_], _ => rfl,
    m_sides_of_lines := PySem.W.mg_of X G a_sides_of_lines,
    F_renumbered_lines := F_renumbered_lines,
    b_renumbered_lines := F_renumbered_lines.binds (ps := ["lines", "side", "order"]) fun _ _ _ _ _ _ us hl => match us, hl with | [_, _, _], _ => rfl,
    m_renumbered_lines := PySem.W.mg_of X G a_renumbered_lines,
    F_are_ends := F_are_ends,
    b_are_ends := F_are_ends.binds (ps := ["thing", "ladder"]) fun _ _ _ _ _ _ us hl => match us, hl with | [_, _], _ => rfl,
    m_are_ends := PySem.W.mg_of X G a_are_ends,
    F_is_knowing := F_is_knowing,
    b_is_knowing := F_is_knowing.binds (ps := ["thing"]) fun _ _ _ _ _ _ us hl => match us, hl with | [_], _ => rfl,
    m_is_knowing := PySem.W.mg_of X G a_is_knowing,
    y0_Goalsu_initu := fun _ => .inr ⟨_, _, _, w0_Goalsu_initu_, rfl, rfl, Nat.le_of_ble_eq_true rfl, (.cons rfl (.cons rfl .nil))⟩,
    F_Goalsu_initu := F_Goalsu_initu,
    b_Goalsu_initu := Jv.bindsD (K := K) (T := q_Goalsu_initu) (m := 4) t_Goalsu_initu rfl rfl fun us hl => match us, hl with | [_, _, _, _], _ => ⟨_, rfl, rfl⟩,
    b1_Goalsu_initu := ⟨(.cons rfl .nil), Jv.bindsD (K := K) (T := q_Goalsu_initu) (m := 3) t_Goalsu_initu rfl rfl fun us hl => match us, hl with | [_, _, _], _ => ⟨_, rfl, rfl⟩⟩,
    F_Goalsu_equ := F_Goalsu_equ,
    b_Goalsu_equ := F_Goalsu_equ.binds (ps := ["self", "other"]) fun _ _ _ _ _ _ us hl => match us, hl with | [_, _], _ => rfl,
    F_Goals_renumbered := F_Goals_renumbered,
    b_Goals_renumbered := F_Goals_renumbered.binds (ps := ["self", "side", "order"]) fun _ _ _ _ _ _ us hl => match us, hl with | [_, _, _], _ => rfl,
    F_is_entry := F_is_entry,
    b_is_entry := F_is_entry.binds (ps := ["thing", "ladder"]) fun _ _ _ _ _ _ us hl => match us, hl with | [_, _], _ => rfl,
    m_is_entry := PySem.W.mg_of X G a_is_entry,
    F_Costsu_initu := F_Costsu_initu,
    b_Costsu_initu := F_Costsu_initu.binds (ps := ["self", "ladder", "lines"]) fun _ _ _ _ _ _ us hl => match us, hl with | [_, _, _], _ => rfl,
    F_Costsu_equ := F_Costsu_equ,
    b_Costsu_equ := F_Costsu_equ.binds (ps := ["self", "other"]) fun _ _ _ _ _ _ us hl => match us, hl with | [_, _], _ => rfl,
    F_Costs_added := F_Costs_added,
    b_Costs_added := F_Costs_added.binds (ps := ["self", "amount"]) fun _ _ _ _ _ _ us hl => match us, hl with | [_, _], _ => rfl,
    F_Costs_renumbered := F_Costs_renumbered,
    b_Costs_renumbered := F_Costs_renumbered.binds (ps := ["self", "side", "order"]) fun _ _ _ _ _ _ us hl => match us, hl with | [_, _, _], _ => rfl,
    F_Weightsu_initu := F_Weightsu_initu,
    b_Weightsu_initu := F_Weightsu_initu.binds (ps := ["self", "lines"]) fun _ _ _ _ _ _ us hl => match us, hl with | [_, _], _ => rfl,
    F_Weightsu_equ := F_Weightsu_equ,
    b_Weightsu_equ := F_Weightsu_equ.binds (ps := ["self", "other"]) fun _ _ _ _ _ _ us hl => match us, hl with | [_, _], _ => rfl,
    p_Weights_weight_sum := ⟨a_Weights_weight_sum, pr_Weights_weight_sum, pt_Weights_weight_sum, ⟨_, r_Weights_weight_sum⟩⟩,
    F_Weights_weight_sum := F_Weights_weight_sum,
    b_Weights_weight_sum := F_Weights_weight_sum.binds (ps := ["self"]) fun _ _ _ _ _ _ us hl => match us, hl with | [_], _ => rfl,
    s_Weights_even := ⟨sr_Weights_even, sg_Weights_even, a_Weights_even, ⟨_, r_Weights_even⟩, k_Weights_even⟩,
    F_Weights_even := F_Weights_even,
    b_Weights_even := F_Weights_even.binds (ps := ["sides"]) fun _ _ _ _ _ _ us hl => match us, hl with | [_], _ => rfl,
    F_Weights_plus := F_Weights_plus,
    b_Weights_plus := F_Weights_plus.binds (ps := ["self", "other"]) fun _ _ _ _ _ _ us hl => match us, hl with | [_, _], _ => rfl,
    F_Weights_times := F_Weights_times,
    b_Weights_times := F_Weights_times.binds (ps := ["self", "size"]) fun _ _ _ _ _ _ us hl => match us, hl with | [_, _], _ => rfl,
    F_Weights_renumbered := F_Weights_renumbered,
    b_Weights_renumbered := F_Weights_renumbered.binds (ps := ["self", "side", "order"]) fun _ _ _ _ _ _ us hl => match us, hl with | [_, _, _], _ => rfl,
    F_check_weights := F_check_weights,
    b_check_weights := F_check_weights.binds (ps := ["costs", "weights"]) fun _ _ _ _ _ _ us hl => match us, hl with | [_, _], _ => rfl,
    m_check_weights := PySem.W.mg_of X G a_check_weights,
    F_ends_up_to := F_ends_up_to,
    b_ends_up_to := F_ends_up_to.binds (ps := ["entry", "cost"]) fun _ _ _ _ _ _ us hl => match us, hl with | [_, _], _ => rfl,
    m_ends_up_to := PySem.W.mg_of X G a_ends_up_to,
    F_floor_of := F_floor_of,
    b_floor_of := F_floor_of.binds (ps := ["costs", "weights"]) fun _ _ _ _ _ _ us hl => match us, hl with | [_, _], _ => rfl,
    m_floor_of := PySem.W.mg_of X G a_floor_of,
    F_cheapest_goals := F_cheapest_goals,
    b_cheapest_goals := F_cheapest_goals.binds (ps := ["costs", "weights"]) fun _ _ _ _ _ _ us hl => match us, hl with | [_, _], _ => rfl,
    m_cheapest_goals := PySem.W.mg_of X G a_cheapest_goals,
    F_as_goals := F_as_goals,
    b_as_goals := F_as_goals.binds (ps := ["costs", "cost"]) fun _ _ _ _ _ _ us hl => match us, hl with | [_, _], _ => rfl,
    m_as_goals := PySem.W.mg_of X G a_as_goals,
    F_Lmix := F_Lmix,
    b_Lmix := F_Lmix.binds (ps := ["_law_number", "_law_turn"]) fun _ _ _ _ _ _ us hl => match us, hl with | [_, _], _ => rfl,
    m_Lmix := PySem.W.mg_of X G a_Lmix,
    F_Lhand := F_Lhand,
    b_Lhand := F_Lhand.binds (ps := ["_law_script"]) fun _ _ _ _ _ _ us hl => match us, hl with | [_], _ => rfl,
    m_Lhand := PySem.W.mg_of X G a_Lhand,
    F_Ldraw := F_Ldraw,
    b_Ldraw := F_Ldraw.binds (ps := ["_law_hand_here", "_law_many"]) fun _ _ _ _ _ _ us hl => match us, hl with | [_, _], _ => rfl,
    m_Ldraw := PySem.W.mg_of X G a_Ldraw,
    F_Lwhole := F_Lwhole,
    b_Lwhole := F_Lwhole.binds (ps := ["_law_thing"]) fun _ _ _ _ _ _ us hl => match us, hl with | [_], _ => rfl,
    m_Lwhole := PySem.W.mg_of X G a_Lwhole,
    F_Lshape := F_Lshape,
    b_Lshape := F_Lshape.binds (ps := ["_law_hand_here"]) fun _ _ _ _ _ _ us hl => match us, hl with | [_], _ => rfl,
    m_Lshape := PySem.W.mg_of X G a_Lshape,
    F_Ldrawn := F_Ldrawn,
    b_Ldrawn := F_Ldrawn.binds (ps := ["_law_hand_here", "_law_sides"]) fun _ _ _ _ _ _ us hl => match us, hl with | [_, _], _ => rfl,
    m_Ldrawn := PySem.W.mg_of X G a_Ldrawn,
    F_Ltuples := F_Ltuples,
    b_Ltuples := F_Ltuples.binds (ps := ["_law_lines"]) fun _ _ _ _ _ _ us hl => match us, hl with | [_], _ => rfl,
    m_Ltuples := PySem.W.mg_of X G a_Ltuples,
    F_Ldue := F_Ldue,
    b_Ldue := F_Ldue.binds (ps := ["_law_lines"]) fun _ _ _ _ _ _ us hl => match us, hl with | [_], _ => rfl,
    m_Ldue := PySem.W.mg_of X G a_Ldue,
    F_Lmade := F_Lmade,
    b_Lmade := F_Lmade.binds (ps := ["_law_lines"]) fun _ _ _ _ _ _ us hl => match us, hl with | [_], _ => rfl,
    m_Lmade := PySem.W.mg_of X G a_Lmade,
    F_Lmade_due := F_Lmade_due,
    b_Lmade_due := F_Lmade_due.binds (ps := ["_law_lines"]) fun _ _ _ _ _ _ us hl => match us, hl with | [_], _ => rfl,
    m_Lmade_due := PySem.W.mg_of X G a_Lmade_due,
    F_Lspoil := F_Lspoil,
    b_Lspoil := F_Lspoil.binds (ps := ["_law_hand_here", "_law_lines"]) fun _ _ _ _ _ _ us hl => match us, hl with | [_, _], _ => rfl,
    m_Lspoil := PySem.W.mg_of X G a_Lspoil,
    F_Lplus := F_Lplus,
    b_Lplus := F_Lplus.binds (ps := ["_law_one", "_law_other"]) fun _ _ _ _ _ _ us hl => match us, hl with | [_, _], _ => rfl,
    m_Lplus := PySem.W.mg_of X G a_Lplus,
    F_Ltimes := F_Ltimes,
    b_Ltimes := F_Ltimes.binds (ps := ["_law_one", "_law_size"]) fun _ _ _ _ _ _ us hl => match us, hl with | [_, _], _ => rfl,
    m_Ltimes := PySem.W.mg_of X G a_Ltimes,
    F_Leven := F_Leven,
    b_Leven := F_Leven.binds (ps := ["_law_sides"]) fun _ _ _ _ _ _ us hl => match us, hl with | [_], _ => rfl,
    m_Leven := PySem.W.mg_of X G a_Leven,
    F_Lrenumbered := F_Lrenumbered,
    b_Lrenumbered := F_Lrenumbered.binds (ps := ["_law_weights_here", "_law_side", "_law_order_here"]) fun _ _ _ _ _ _ us hl => match us, hl with | [_, _, _], _ => rfl,
    m_Lrenumbered := PySem.W.mg_of X G a_Lrenumbered,
    F_Ladded_due := F_Ladded_due,
    b_Ladded_due := F_Ladded_due.binds (ps := ["_law_one", "_law_other"]) fun _ _ _ _ _ _ us hl => match us, hl with | [_, _], _ => rfl,
    m_Ladded_due := PySem.W.mg_of X G a_Ladded_due,
    F_Lorder := F_Lorder,
    b_Lorder := F_Lorder.binds (ps := ["_law_hand_here", "_law_many"]) fun _ _ _ _ _ _ us hl => match us, hl with | [_, _], _ => rfl,
    m_Lorder := PySem.W.mg_of X G a_Lorder,
    F_Lweights := F_Lweights,
    b_Lweights := F_Lweights.binds (ps := ["_law_hand_here", "_law_sides", "_law_lines"]) fun _ _ _ _ _ _ us hl => match us, hl with | [_, _, _], _ => rfl,
    m_Lweights := PySem.W.mg_of X G a_Lweights,
    F_Lturned := F_Lturned,
    b_Lturned := F_Lturned.binds (ps := ["_law_hand_here", "_law_weights_here", "_law_lines"]) fun _ _ _ _ _ _ us hl => match us, hl with | [_, _, _], _ => rfl,
    m_Lturned := PySem.W.mg_of X G a_Lturned,
    F_Lcosts := F_Lcosts,
    b_Lcosts := F_Lcosts.binds (ps := ["_law_hand_here", "_law_sides", "_law_ladder"]) fun _ _ _ _ _ _ us hl => match us, hl with | [_, _, _], _ => rfl,
    m_Lcosts := PySem.W.mg_of X G a_Lcosts,
    F_Lup_to := F_Lup_to,
    b_Lup_to := F_Lup_to.binds (ps := ["_law_entry", "_law_cost"]) fun _ _ _ _ _ _ us hl => match us, hl with | [_, _], _ => rfl,
    m_Lup_to := PySem.W.mg_of X G a_Lup_to,
    F_Las_goals := F_Las_goals,
    b_Las_goals := F_Las_goals.binds (ps := ["_law_costs_here", "_law_cost"]) fun _ _ _ _ _ _ us hl => match us, hl with | [_, _], _ => rfl,
    m_Las_goals := PySem.W.mg_of X G a_Las_goals,
    F_Lgoals := F_Lgoals,
    b_Lgoals := F_Lgoals.binds (ps := ["_law_hand_here", "_law_sides", "_law_counts"]) fun _ _ _ _ _ _ us hl => match us, hl with | [_, _, _], _ => rfl,
    m_Lgoals := PySem.W.mg_of X G a_Lgoals,
    F_Lunlike := F_Lunlike,
    b_Lunlike := F_Lunlike.binds (ps := ["_law_hand_here", "_law_costs_here", "_law_sides"]) fun _ _ _ _ _ _ us hl => match us, hl with | [_, _, _], _ => rfl,
    m_Lunlike := PySem.W.mg_of X G a_Lunlike,
    F_Lcase := F_Lcase,
    b_Lcase := F_Lcase.binds (ps := ["_law_hand_here"]) fun _ _ _ _ _ _ us hl => match us, hl with | [_], _ => rfl,
    m_Lcase := PySem.W.mg_of X G a_Lcase,
    F_law := F_law,
    b_law := F_law.binds (ps := ["_law_script"]) fun _ _ _ _ _ _ us hl => match us, hl with | [_], _ => rfl,
    m_law := PySem.W.mg_of X G a_law,
    m_CallError := PySem.W.mg_of X G a_CallError,
    e_CallError := ⟨x_CallError, k_CallError, b_CallError, t_CallError, i_CallError, s_CallError⟩,
    m_BadGoals := PySem.W.mg_of X G a_BadGoals,
    x_BadGoals := ⟨⟨⟨nm_BadGoals, qn_BadGoals, N_BadGoals, bs_BadGoals, _, sn_BadGoals, sb_BadGoals, ab_BadGoals, co_BadGoals, dd_BadGoals, m0_BadGoals, m1_BadGoals, m2_BadGoals, m3_BadGoals, m5_BadGoals, x_BadGoals, rfl⟩, sa_BadGoals, b_BadGoals, t_BadGoals, k_BadGoals⟩, a_BadGoalsu_initu, y_BadGoals, i_BadGoals, s_BadGoals, ⟨ga_BadGoals, gg_BadGoals, b_BadGoals, hd_BadGoals⟩⟩,
    n_BadGoals_what := n_BadGoals_what,
    m_BadLot := PySem.W.mg_of X G a_BadLot,
    u_BadLot_BadSide := u_BadLot_BadSide,
    x_BadLot := ⟨⟨⟨nm_BadLot, qn_BadLot, N_BadLot, bs_BadLot, _, sn_BadLot, sb_BadLot, ab_BadLot, co_BadLot, dd_BadLot, m0_BadLot, m1_BadLot, m2_BadLot, m3_BadLot, m5_BadLot, x_BadLot, rfl⟩, sa_BadLot, b_BadLot, t_BadLot, k_BadLot⟩, a_BadLotu_initu, y_BadLot, i_BadLot, s_BadLot, ⟨ga_BadLot, gg_BadLot, b_BadLot, hd_BadLot⟩⟩,
    n_BadLot_side := n_BadLot_side,
    m_BadSide := PySem.W.mg_of X G a_BadSide,
    e_BadSide := ⟨x_BadSide, k_BadSide, b_BadSide, t_BadSide, i_BadSide, s_BadSide⟩,
    m_NotAlike := PySem.W.mg_of X G a_NotAlike,
    x_NotAlike := ⟨⟨⟨nm_NotAlike, qn_NotAlike, N_NotAlike, bs_NotAlike, _, sn_NotAlike, sb_NotAlike, ab_NotAlike, co_NotAlike, dd_NotAlike, m0_NotAlike, m1_NotAlike, m2_NotAlike, m3_NotAlike, m5_NotAlike, x_NotAlike, rfl⟩, sa_NotAlike, b_NotAlike, t_NotAlike, k_NotAlike⟩, a_NotAlikeu_initu, y_NotAlike, i_NotAlike, s_NotAlike, ⟨ga_NotAlike, gg_NotAlike, b_NotAlike, hd_NotAlike⟩⟩,
    n_NotAlike_what := n_NotAlike_what,
    m_BadCosts := PySem.W.mg_of X G a_BadCosts,
    x_BadCosts := ⟨⟨⟨nm_BadCosts, qn_BadCosts, N_BadCosts, bs_BadCosts, _, sn_BadCosts, sb_BadCosts, ab_BadCosts, co_BadCosts, dd_BadCosts, m0_BadCosts, m1_BadCosts, m2_BadCosts, m3_BadCosts, m5_BadCosts, x_BadCosts, rfl⟩, sa_BadCosts, b_BadCosts, t_BadCosts, k_BadCosts⟩, a_BadCostsu_initu, y_BadCosts, i_BadCosts, s_BadCosts, ⟨ga_BadCosts, gg_BadCosts, b_BadCosts, hd_BadCosts⟩⟩,
    n_BadCosts_what := n_BadCosts_what,
    m_BadWeights := PySem.W.mg_of X G a_BadWeights,
    u_BadWeights_NotAlike := u_BadWeights_NotAlike,
    x_BadWeights := ⟨⟨⟨nm_BadWeights, qn_BadWeights, N_BadWeights, bs_BadWeights, _, sn_BadWeights, sb_BadWeights, ab_BadWeights, co_BadWeights, dd_BadWeights, m0_BadWeights, m1_BadWeights, m2_BadWeights, m3_BadWeights, m5_BadWeights, x_BadWeights, rfl⟩, sa_BadWeights, b_BadWeights, t_BadWeights, k_BadWeights⟩, a_BadWeightsu_initu, y_BadWeights, i_BadWeights, s_BadWeights, ⟨ga_BadWeights, gg_BadWeights, b_BadWeights, hd_BadWeights⟩⟩,
    n_BadWeights_what := n_BadWeights_what,
    m_Goals := PySem.W.mg_of X G a_Goals,
    o_Goals := ⟨pg_Goals, hd_Goals, po_Goals, sa_Goals⟩,
    k_Goals := ⟨mk_Goals, a_Goalsu_initu, fn_Goalsu_initu, kp_Goals⟩,
    h_Goalsu_equ := ⟨a_Goalsu_equ, fn_Goalsu_equ, k_Goalsu_equ⟩,
    h_Goals_renumbered := ⟨a_Goals_renumbered, fn_Goals_renumbered, k_Goals_renumbered⟩,
    n_Goals_ladder := n_Goals_ladder,
    n_Goals_wanted := n_Goals_wanted,
    n_Goals_knows := n_Goals_knows,
    n_Goals_sides := n_Goals_sides,
    m_Costs := PySem.W.mg_of X G a_Costs,
    o_Costs := ⟨pg_Costs, hd_Costs, po_Costs, sa_Costs⟩,
    k_Costs := ⟨mk_Costs, a_Costsu_initu, fn_Costsu_initu, kp_Costs⟩,
    h_Costsu_equ := ⟨a_Costsu_equ, fn_Costsu_equ, k_Costsu_equ⟩,
    h_Costs_added := ⟨a_Costs_added, fn_Costs_added, k_Costs_added⟩,
    h_Costs_renumbered := ⟨a_Costs_renumbered, fn_Costs_renumbered, k_Costs_renumbered⟩,
    n_Costs_ladder := n_Costs_ladder,
    n_Costs_lines := n_Costs_lines,
    n_Costs_sides := n_Costs_sides,
    m_Weights := PySem.W.mg_of X G a_Weights,
    o_Weights := ⟨pg_Weights, hd_Weights, po_Weights, sa_Weights⟩,
    k_Weights := ⟨mk_Weights, a_Weightsu_initu, fn_Weightsu_initu, kp_Weights⟩,
    h_Weightsu_equ := ⟨a_Weightsu_equ, fn_Weightsu_equ, k_Weightsu_equ⟩,
    h_Weights_plus := ⟨a_Weights_plus, fn_Weights_plus, k_Weights_plus⟩,
    h_Weights_times := ⟨a_Weights_times, fn_Weights_times, k_Weights_times⟩,
    h_Weights_renumbered := ⟨a_Weights_renumbered, fn_Weights_renumbered, k_Weights_renumbered⟩,
    n_Weights_lines := n_Weights_lines,
    n_Weights_sides := n_Weights_sides,
    z_ValueError := PySem.W.mg_none_of X G z_ValueError,
    z_abs := PySem.W.mg_none_of X G z_abs,
    z_all := PySem.W.mg_none_of X G z_all,
    z_bool := PySem.W.mg_none_of X G z_bool,
    z_enumerate := PySem.W.mg_none_of X G z_enumerate,
    z_int := PySem.W.mg_none_of X G z_int,
    z_isinstance := PySem.W.mg_none_of X G z_isinstance,
    z_len := PySem.W.mg_none_of X G z_len,
    z_list := PySem.W.mg_none_of X G z_list,
    z_max := PySem.W.mg_none_of X G z_max,
    z_min := PySem.W.mg_none_of X G z_min,
    z_property := PySem.W.mg_none_of X G z_property,
    z_range := PySem.W.mg_none_of X G z_range,
    z_set := PySem.W.mg_none_of X G z_set,
    z_sorted := PySem.W.mg_none_of X G z_sorted,
    z_staticmethod := PySem.W.mg_none_of X G z_staticmethod,
    z_sum := PySem.W.mg_none_of X G z_sum,
    z_tuple := PySem.W.mg_none_of X G z_tuple,
    z_zip := PySem.W.mg_none_of X G z_zip,
    c_EAST := PySem.W.mg_of X G c_EAST,
    c_WEST := PySem.W.mg_of X G c_WEST,
    c_LADDER_MOST := PySem.W.mg_of X G c_LADDER_MOST,
    c_KINDS_MOST := PySem.W.mg_of X G c_KINDS_MOST,
    c_COUPLES_MOST := PySem.W.mg_of X G c_COUPLES_MOST,
    c_COST_MOST := PySem.W.mg_of X G c_COST_MOST,
    c_TIMES_MOST := PySem.W.mg_of X G c_TIMES_MOST,
    i_Weights_ca := zz_i_Weights_ca,
    i_Weights_cn := zz_i_Weights_cn,
    i_Weights_ct := zz_i_Weights_ct,
    i_Weights_cm := zz_i_Weights_cm,
    i_Weights_kt := zz_i_Weights_kt,
    i_Weights_nt := zz_i_Weights_nt,
    i_Weights_ne := zz_i_Weights_ne,
    i_Goals_ca := zz_i_Goals_ca,
    i_Goals_cn := zz_i_Goals_cn,
    i_Goals_ct := zz_i_Goals_ct,
    i_Goals_cm := zz_i_Goals_cm,
    i_Goals_kt := zz_i_Goals_kt,
    i_Goals_nt := zz_i_Goals_nt,
    i_Goals_ne := zz_i_Goals_ne }
  exact ⟨T.d_law, fun s v => .of_eq rfl, fun base _ _ => ok_law T O⟩
end K50
open PySem PySem.W PyProof.Rows
set_option maxHeartbeats 0 in
theorem PySem.Challenge.cw_risingcalls_k50_weights_floors_and_cheap_holds : PySem.Challenge.rw_risingcalls_k50_weights_floors_and_cheap.Holds := by
  w_on; o_law; k_head; (case hw => w_witness2)
  k_fill
  refine L2.walk_of (l := PySem.Challenge.rw_risingcalls_k50_weights_floors_and_cheap) (n := 63) (k := 10) (x := "_law_script") (CX := fun _ => L2.CX0) (sp := fun w => K50.sp_law _) rfl (by decide) rfl ⟨rfl, by decide, by decide⟩ (fun w h Y => PySem.W.kIn_of Y) ?F (fun _ _ a ns hl _ hS => ⟨a, ns, rfl, hS, hl, fun _ => rfl⟩) (fun _ _ _ _ _ h => h)
  case F =>
    intro w mg fa h KX G hmg
    refine' K50.all_mk KX G hmg ?a_CallError ?a_BadGoals ?a_BadLot ?a_BadSide ?a_NotAlike ?a_BadCosts ?a_BadWeights ?a_Goals ?a_Costs ?a_Weights ?a_BadGoalsu_initu ?l_BadGoalsu_initu ?c_BadGoalsu_initu ?k_BadGoalsu_initu ?a_BadLotu_initu ?l_BadLotu_initu ?c_BadLotu_initu ?k_BadLotu_initu ?a_NotAlikeu_initu ?l_NotAlikeu_initu ?c_NotAlikeu_initu ?k_NotAlikeu_initu ?a_BadCostsu_initu ?l_BadCostsu_initu ?c_BadCostsu_initu ?k_BadCostsu_initu ?a_BadWeightsu_initu ?l_BadWeightsu_initu ?c_BadWeightsu_initu ?k_BadWeightsu_initu ?a_is_whole ?l_is_whole ?c_is_whole ?k_is_whole ?t_is_whole ?a_is_truth ?l_is_truth ?c_is_truth ?k_is_truth ?a_is_sequence ?l_is_sequence ?c_is_sequence ?k_is_sequence ?a_check_side ?l_check_side ?c_check_side ?k_check_side ?a_are_sides ?l_are_sides ?c_are_sides ?k_are_sides ?a_couples_of ?l_couples_of ?c_couples_of ?k_couples_of ?a_are_kinds ?l_are_kinds ?c_are_kinds ?k_are_kinds ?a_is_order ?l_is_order ?c_is_order ?k_is_order ?a_check_side_order ?l_check_side_order ?c_check_side_order ?k_check_side_order ?a_sides_of_lines ?l_sides_of_lines ?c_sides_of_lines ?k_sides_of_lines ?a_renumbered_lines ?l_renumbered_lines ?c_renumbered_lines ?k_renumbered_lines ?a_are_ends ?l_are_ends ?c_are_ends ?k_are_ends ?a_is_knowing ?l_is_knowing ?c_is_knowing ?k_is_knowing ?a_Goalsu_initu ?l_Goalsu_initu ?c_Goalsu_initu ?k_Goalsu_initu ?t_Goalsu_initu ?w0_Goalsu_initu_ ?a_Goalsu_equ ?l_Goalsu_equ ?c_Goalsu_equ ?k_Goalsu_equ ?a_Goals_renumbered ?l_Goals_renumbered ?c_Goals_renumbered ?k_Goals_renumbered ?a_is_entry ?l_is_entry ?c_is_entry ?k_is_entry ?a_Costsu_initu ?l_Costsu_initu ?c_Costsu_initu ?k_Costsu_initu ?a_Costsu_equ ?l_Costsu_equ ?c_Costsu_equ ?k_Costsu_equ ?a_Costs_added ?l_Costs_added ?c_Costs_added ?k_Costs_added ?a_Costs_renumbered ?l_Costs_renumbered ?c_Costs_renumbered ?k_Costs_renumbered ?a_Weightsu_initu ?l_Weightsu_initu ?c_Weightsu_initu ?k_Weightsu_initu ?a_Weightsu_equ ?l_Weightsu_equ ?c_Weightsu_equ ?k_Weightsu_equ ?a_Weights_weight_sum ?pr_Weights_weight_sum ?pt_Weights_weight_sum ?r_Weights_weight_sum ?l_Weights_weight_sum ?c_Weights_weight_sum ?k_Weights_weight_sum ?a_Weights_even ?r_Weights_even ?sr_Weights_even ?sg_Weights_even ?l_Weights_even ?c_Weights_even ?k_Weights_even ?a_Weights_plus ?l_Weights_plus ?c_Weights_plus ?k_Weights_plus ?a_Weights_times ?l_Weights_times ?c_Weights_times ?k_Weights_times ?a_Weights_renumbered ?l_Weights_renumbered ?c_Weights_renumbered ?k_Weights_renumbered ?a_check_weights ?l_check_weights ?c_check_weights ?k_check_weights ?a_ends_up_to ?l_ends_up_to ?c_ends_up_to ?k_ends_up_to ?a_floor_of ?l_floor_of ?c_floor_of ?k_floor_of ?a_cheapest_goals ?l_cheapest_goals ?c_cheapest_goals ?k_cheapest_goals ?a_as_goals ?l_as_goals ?c_as_goals ?k_as_goals ?a_Lmix ?l_Lmix ?c_Lmix ?k_Lmix ?a_Lhand ?l_Lhand ?c_Lhand ?k_Lhand ?a_Ldraw ?l_Ldraw ?c_Ldraw ?k_Ldraw ?a_Lwhole ?l_Lwhole ?c_Lwhole ?k_Lwhole ?a_Lshape ?l_Lshape ?c_Lshape ?k_Lshape ?a_Ldrawn ?l_Ldrawn ?c_Ldrawn ?k_Ldrawn ?a_Ltuples ?l_Ltuples ?c_Ltuples ?k_Ltuples ?a_Ldue ?l_Ldue ?c_Ldue ?k_Ldue ?a_Lmade ?l_Lmade ?c_Lmade ?k_Lmade ?a_Lmade_due ?l_Lmade_due ?c_Lmade_due ?k_Lmade_due ?a_Lspoil ?l_Lspoil ?c_Lspoil ?k_Lspoil ?a_Lplus ?l_Lplus ?c_Lplus ?k_Lplus ?a_Ltimes ?l_Ltimes ?c_Ltimes ?k_Ltimes ?a_Leven ?l_Leven ?c_Leven ?k_Leven ?a_Lrenumbered ?l_Lrenumbered ?c_Lrenumbered ?k_Lrenumbered ?a_Ladded_due ?l_Ladded_due ?c_Ladded_due ?k_Ladded_due ?a_Lorder ?l_Lorder ?c_Lorder ?k_Lorder ?a_Lweights ?l_Lweights ?c_Lweights ?k_Lweights ?a_Lturned ?l_Lturned ?c_Lturned ?k_Lturned ?a_Lcosts ?l_Lcosts ?c_Lcosts ?k_Lcosts ?a_Lup_to ?l_Lup_to ?c_Lup_to ?k_Lup_to ?a_Las_goals ?l_Las_goals ?c_Las_goals ?k_Las_goals ?a_Lgoals ?l_Lgoals ?c_Lgoals ?k_Lgoals ?a_Lunlike ?l_Lunlike ?c_Lunlike ?k_Lunlike ?a_Lcase ?l_Lcase ?c_Lcase ?k_Lcase ?a_law ?l_law ?c_law ?k_law ?k_CallError ?b_CallError ?t_CallError ?i_CallError ?s_CallError ?x_CallError ?k_BadGoals ?b_BadGoals ?t_BadGoals ?i_BadGoals ?s_BadGoals ?x_BadGoals ?sa_BadGoals ?ga_BadGoals ?gg_BadGoals ?hd_BadGoals ?y_BadGoals ?n_BadGoals_what ?u_BadLot_BadSide ?k_BadLot ?b_BadLot ?t_BadLot ?i_BadLot ?s_BadLot ?x_BadLot ?sa_BadLot ?ga_BadLot ?gg_BadLot ?hd_BadLot ?y_BadLot ?n_BadLot_side ?k_BadSide ?b_BadSide ?t_BadSide ?i_BadSide ?s_BadSide ?x_BadSide ?k_NotAlike ?b_NotAlike ?t_NotAlike ?i_NotAlike ?s_NotAlike ?x_NotAlike ?sa_NotAlike ?ga_NotAlike ?gg_NotAlike ?hd_NotAlike ?y_NotAlike ?n_NotAlike_what ?k_BadCosts ?b_BadCosts ?t_BadCosts ?i_BadCosts ?s_BadCosts ?x_BadCosts ?sa_BadCosts ?ga_BadCosts ?gg_BadCosts ?hd_BadCosts ?y_BadCosts ?n_BadCosts_what ?u_BadWeights_NotAlike ?k_BadWeights ?b_BadWeights ?t_BadWeights ?i_BadWeights ?s_BadWeights ?x_BadWeights ?sa_BadWeights ?ga_BadWeights ?gg_BadWeights ?hd_BadWeights ?y_BadWeights ?n_BadWeights_what ?kp_Goals ?pg_Goals ?hd_Goals ?po_Goals ?sa_Goals ?mk_Goals ?fn_Goalsu_initu ?fn_Goalsu_equ ?fn_Goals_renumbered ?n_Goals_ladder ?n_Goals_wanted ?n_Goals_knows ?n_Goals_sides ?kp_Costs ?pg_Costs ?hd_Costs ?po_Costs ?sa_Costs ?mk_Costs ?fn_Costsu_initu ?fn_Costsu_equ ?fn_Costs_added ?fn_Costs_renumbered ?n_Costs_ladder ?n_Costs_lines ?n_Costs_sides ?kp_Weights ?pg_Weights ?hd_Weights ?po_Weights ?sa_Weights ?mk_Weights ?fn_Weightsu_initu ?fn_Weightsu_equ ?fn_Weights_plus ?fn_Weights_times ?fn_Weights_renumbered ?n_Weights_lines ?n_Weights_sides ?z_ValueError ?z_abs ?z_all ?z_bool ?z_enumerate ?z_int ?z_isinstance ?z_len ?z_list ?z_max ?z_min ?z_property ?z_range ?z_set ?z_sorted ?z_staticmethod ?z_sum ?z_tuple ?z_zip ?c_EAST ?c_WEST ?c_LADDER_MOST ?c_KINDS_MOST ?c_COUPLES_MOST ?c_COST_MOST ?c_TIMES_MOST ?zz_i_Weights_ca ?zz_i_Weights_cn ?zz_i_Weights_ct ?zz_i_Weights_cm ?zz_i_Weights_kt ?zz_i_Weights_nt ?zz_i_Weights_ne ?zz_i_Goals_ca ?zz_i_Goals_cn ?zz_i_Goals_ct ?zz_i_Goals_cm ?zz_i_Goals_kt ?zz_i_Goals_nt ?zz_i_Goals_ne
    (case a_CallError => k_is)
    (case a_BadGoals => k_is)
    (case a_BadLot => k_is)
    (case a_BadSide => k_is)
    (case a_NotAlike => k_is)
    (case a_BadCosts => k_is)
    (case a_BadWeights => k_is)
    (case a_Goals => k_is)
    (case a_Costs => k_is)
    (case a_Weights => k_is)
    (case a_BadGoalsu_initu => k_is)
    (case l_BadGoalsu_initu => k_is)
    (case c_BadGoalsu_initu => k_is)
    (case k_BadGoalsu_initu => k_is)
    (case a_BadLotu_initu => k_is)
    (case l_BadLotu_initu => k_is)
    (case c_BadLotu_initu => k_is)
    (case k_BadLotu_initu => k_is)
    (case a_NotAlikeu_initu => k_is)
    (case l_NotAlikeu_initu => k_is)
    (case c_NotAlikeu_initu => k_is)
    (case k_NotAlikeu_initu => k_is)
    (case a_BadCostsu_initu => k_is)
    (case l_BadCostsu_initu => k_is)
    (case c_BadCostsu_initu => k_is)
    (case k_BadCostsu_initu => k_is)
    (case a_BadWeightsu_initu => k_is)
    (case l_BadWeightsu_initu => k_is)
    (case c_BadWeightsu_initu => k_is)
    (case k_BadWeightsu_initu => k_is)
    (case a_is_whole => k_is)
    (case l_is_whole => k_is)
    (case c_is_whole => k_is)
    (case k_is_whole => k_is)
    (case t_is_whole => k_is)
    (case a_is_truth => k_is)
    (case l_is_truth => k_is)
    (case c_is_truth => k_is)
    (case k_is_truth => k_is)
    (case a_is_sequence => k_is)
    (case l_is_sequence => k_is)
    (case c_is_sequence => k_is)
    (case k_is_sequence => k_is)
    (case a_check_side => k_is)
    (case l_check_side => k_is)
    (case c_check_side => k_is)
    (case k_check_side => k_is)
    (case a_are_sides => k_is)
    (case l_are_sides => k_is)
    (case c_are_sides => k_is)
    (case k_are_sides => k_is)
    (case a_couples_of => k_is)
    (case l_couples_of => k_is)
    (case c_couples_of => k_is)
    (case k_couples_of => k_is)
    (case a_are_kinds => k_is)
    (case l_are_kinds => k_is)
    (case c_are_kinds => k_is)
    (case k_are_kinds => k_is)
    (case a_is_order => k_is)
    (case l_is_order => k_is)
    (case c_is_order => k_is)
    (case k_is_order => k_is)
    (case a_check_side_order => k_is)
    (case l_check_side_order => k_is)
    (case c_check_side_order => k_is)
    (case k_check_side_order => k_is)
    (case a_sides_of_lines => k_is)
    (case l_sides_of_lines => k_is)
    (case c_sides_of_lines => k_is)
    (case k_sides_of_lines => k_is)
    (case a_renumbered_lines => k_is)
    (case l_renumbered_lines => k_is)
    (case c_renumbered_lines => k_is)
    (case k_renumbered_lines => k_is)
    (case a_are_ends => k_is)
    (case l_are_ends => k_is)
    (case c_are_ends => k_is)
    (case k_are_ends => k_is)
    (case a_is_knowing => k_is)
    (case l_is_knowing => k_is)
    (case c_is_knowing => k_is)
    (case k_is_knowing => k_is)
    (case a_Goalsu_initu => k_is)
    (case l_Goalsu_initu => k_is)
    (case c_Goalsu_initu => k_is)
    (case k_Goalsu_initu => k_is)
    (case t_Goalsu_initu => k_is)
    (case w0_Goalsu_initu_ => k_is)
    (case a_Goalsu_equ => k_is)
    (case l_Goalsu_equ => k_is)
    (case c_Goalsu_equ => k_is)
    (case k_Goalsu_equ => k_is)
    (case a_Goals_renumbered => k_is)
    (case l_Goals_renumbered => k_is)
    (case c_Goals_renumbered => k_is)
    (case k_Goals_renumbered => k_is)
    (case a_is_entry => k_is)
    (case l_is_entry => k_is)
    (case c_is_entry => k_is)
    (case k_is_entry => k_is)
    (case a_Costsu_initu => k_is)
    (case l_Costsu_initu => k_is)
    (case c_Costsu_initu => k_is)
    (case k_Costsu_initu => k_is)
    (case a_Costsu_equ => k_is)
    (case l_Costsu_equ => k_is)
    (case c_Costsu_equ => k_is)
    (case k_Costsu_equ => k_is)
    (case a_Costs_added => k_is)
    (case l_Costs_added => k_is)
    (case c_Costs_added => k_is)
    (case k_Costs_added => k_is)
    (case a_Costs_renumbered => k_is)
    (case l_Costs_renumbered => k_is)
    (case c_Costs_renumbered => k_is)
    (case k_Costs_renumbered => k_is)
    (case a_Weightsu_initu => k_is)
    (case l_Weightsu_initu => k_is)
    (case c_Weightsu_initu => k_is)
    (case k_Weightsu_initu => k_is)
    (case a_Weightsu_equ => k_is)
    (case l_Weightsu_equ => k_is)
    (case c_Weightsu_equ => k_is)
    (case k_Weightsu_equ => k_is)
    (case a_Weights_weight_sum => k_is)
    (case pr_Weights_weight_sum => k_is)
    (case pt_Weights_weight_sum => k_is)
    (case r_Weights_weight_sum => k_is)
    (case l_Weights_weight_sum => k_is)
    (case c_Weights_weight_sum => k_is)
    (case k_Weights_weight_sum => k_is)
    (case a_Weights_even => k_is)
    (case r_Weights_even => k_is)
    (case sr_Weights_even => k_is)
    (case sg_Weights_even => k_is)
    (case l_Weights_even => k_is)
    (case c_Weights_even => k_is)
    (case k_Weights_even => k_is)
    (case a_Weights_plus => k_is)
    (case l_Weights_plus => k_is)
    (case c_Weights_plus => k_is)
    (case k_Weights_plus => k_is)
    (case a_Weights_times => k_is)
    (case l_Weights_times => k_is)
    (case c_Weights_times => k_is)
    (case k_Weights_times => k_is)
    (case a_Weights_renumbered => k_is)
    (case l_Weights_renumbered => k_is)
    (case c_Weights_renumbered => k_is)
    (case k_Weights_renumbered => k_is)
    (case a_check_weights => k_is)
    (case l_check_weights => k_is)
    (case c_check_weights => k_is)
    (case k_check_weights => k_is)
    (case a_ends_up_to => k_is)
    (case l_ends_up_to => k_is)
    (case c_ends_up_to => k_is)
    (case k_ends_up_to => k_is)
    (case a_floor_of => k_is)
    (case l_floor_of => k_is)
    (case c_floor_of => k_is)
    (case k_floor_of => k_is)
    (case a_cheapest_goals => k_is)
    (case l_cheapest_goals => k_is)
    (case c_cheapest_goals => k_is)
    (case k_cheapest_goals => k_is)
    (case a_as_goals => k_is)
    (case l_as_goals => k_is)
    (case c_as_goals => k_is)
    (case k_as_goals => k_is)
    (case a_Lmix => k_is)
    (case l_Lmix => k_is)
    (case c_Lmix => k_is)
    (case k_Lmix => k_is)
    (case a_Lhand => k_is)
    (case l_Lhand => k_is)
    (case c_Lhand => k_is)
    (case k_Lhand => k_is)
    (case a_Ldraw => k_is)
    (case l_Ldraw => k_is)
    (case c_Ldraw => k_is)
    (case k_Ldraw => k_is)
    (case a_Lwhole => k_is)
    (case l_Lwhole => k_is)
    (case c_Lwhole => k_is)
    (case k_Lwhole => k_is)
    (case a_Lshape => k_is)
    (case l_Lshape => k_is)
    (case c_Lshape => k_is)
    (case k_Lshape => k_is)
    (case a_Ldrawn => k_is)
    (case l_Ldrawn => k_is)
    (case c_Ldrawn => k_is)
    (case k_Ldrawn => k_is)
    (case a_Ltuples => k_is)
    (case l_Ltuples => k_is)
    (case c_Ltuples => k_is)
    (case k_Ltuples => k_is)
    (case a_Ldue => k_is)
    (case l_Ldue => k_is)
    (case c_Ldue => k_is)
    (case k_Ldue => k_is)
    (case a_Lmade => k_is)
    (case l_Lmade => k_is)
    (case c_Lmade => k_is)
    (case k_Lmade => k_is)
    (case a_Lmade_due => k_is)
    (case l_Lmade_due => k_is)
    (case c_Lmade_due => k_is)
    (case k_Lmade_due => k_is)
    (case a_Lspoil => k_is)
    (case l_Lspoil => k_is)
    (case c_Lspoil => k_is)
    (case k_Lspoil => k_is)
    (case a_Lplus => k_is)
    (case l_Lplus => k_is)
    (case c_Lplus => k_is)
    (case k_Lplus => k_is)
    (case a_Ltimes => k_is)
    (case l_Ltimes => k_is)
    (case c_Ltimes => k_is)
    (case k_Ltimes => k_is)
    (case a_Leven => k_is)
    (case l_Leven => k_is)
    (case c_Leven => k_is)
    (case k_Leven => k_is)
    (case a_Lrenumbered => k_is)
    (case l_Lrenumbered => k_is)
    (case c_Lrenumbered => k_is)
    (case k_Lrenumbered => k_is)
    (case a_Ladded_due => k_is)
    (case l_Ladded_due => k_is)
    (case c_Ladded_due => k_is)
    (case k_Ladded_due => k_is)
    (case a_Lorder => k_is)
    (case l_Lorder => k_is)
    (case c_Lorder => k_is)
    (case k_Lorder => k_is)
    (case a_Lweights => k_is)
    (case l_Lweights => k_is)
    (case c_Lweights => k_is)
    (case k_Lweights => k_is)
    (case a_Lturned => k_is)
    (case l_Lturned => k_is)
    (case c_Lturned => k_is)
    (case k_Lturned => k_is)
    (case a_Lcosts => k_is)
    (case l_Lcosts => k_is)
    (case c_Lcosts => k_is)
    (case k_Lcosts => k_is)
    (case a_Lup_to => k_is)
    (case l_Lup_to => k_is)
    (case c_Lup_to => k_is)
    (case k_Lup_to => k_is)
    (case a_Las_goals => k_is)
    (case l_Las_goals => k_is)
    (case c_Las_goals => k_is)
    (case k_Las_goals => k_is)
    (case a_Lgoals => k_is)
    (case l_Lgoals => k_is)
    (case c_Lgoals => k_is)
    (case k_Lgoals => k_is)
    (case a_Lunlike => k_is)
    (case l_Lunlike => k_is)
    (case c_Lunlike => k_is)
    (case k_Lunlike => k_is)
    (case a_Lcase => k_is)
    (case l_Lcase => k_is)
    (case c_Lcase => k_is)
    (case k_Lcase => k_is)
    (case a_law => k_is)
    (case l_law => k_is)
    (case c_law => k_is)
    (case k_law => k_is)
    (case k_CallError => k_is)
    (case b_CallError => k_is)
    (case t_CallError => k_is)
    (case i_CallError => k_is)
    (case s_CallError => first | rfl | k_is)
    (case x_CallError => k_exc)
    (case k_BadGoals => k_is)
    (case b_BadGoals => k_is)
    (case t_BadGoals => k_is)
    (case i_BadGoals => k_is)
    (case s_BadGoals => first | rfl | k_is)
    (case x_BadGoals => k_is)
    (case sa_BadGoals => k_is)
    (case ga_BadGoals => k_is)
    (case gg_BadGoals => k_is)
    (case hd_BadGoals => k_is)
    (case y_BadGoals => k_is)
    (case n_BadGoals_what => k_is)
    (case u_BadLot_BadSide => first | rfl | k_is)
    (case k_BadLot => k_is)
    (case b_BadLot => k_is)
    (case t_BadLot => k_is)
    (case i_BadLot => k_is)
    (case s_BadLot => first | rfl | k_is)
    (case x_BadLot => k_is)
    (case sa_BadLot => k_is)
    (case ga_BadLot => k_is)
    (case gg_BadLot => k_is)
    (case hd_BadLot => k_is)
    (case y_BadLot => k_is)
    (case n_BadLot_side => k_is)
    (case k_BadSide => k_is)
    (case b_BadSide => k_is)
    (case t_BadSide => k_is)
    (case i_BadSide => k_is)
    (case s_BadSide => first | rfl | k_is)
    (case x_BadSide => k_exc)
    (case k_NotAlike => k_is)
    (case b_NotAlike => k_is)
    (case t_NotAlike => k_is)
    (case i_NotAlike => k_is)
    (case s_NotAlike => first | rfl | k_is)
    (case x_NotAlike => k_is)
    (case sa_NotAlike => k_is)
    (case ga_NotAlike => k_is)
    (case gg_NotAlike => k_is)
    (case hd_NotAlike => k_is)
    (case y_NotAlike => k_is)
    (case n_NotAlike_what => k_is)
    (case k_BadCosts => k_is)
    (case b_BadCosts => k_is)
    (case t_BadCosts => k_is)
    (case i_BadCosts => k_is)
    (case s_BadCosts => first | rfl | k_is)
    (case x_BadCosts => k_is)
    (case sa_BadCosts => k_is)
    (case ga_BadCosts => k_is)
    (case gg_BadCosts => k_is)
    (case hd_BadCosts => k_is)
    (case y_BadCosts => k_is)
    (case n_BadCosts_what => k_is)
    (case u_BadWeights_NotAlike => first | rfl | k_is)
    (case k_BadWeights => k_is)
    (case b_BadWeights => k_is)
    (case t_BadWeights => k_is)
    (case i_BadWeights => k_is)
    (case s_BadWeights => first | rfl | k_is)
    (case x_BadWeights => k_is)
    (case sa_BadWeights => k_is)
    (case ga_BadWeights => k_is)
    (case gg_BadWeights => k_is)
    (case hd_BadWeights => k_is)
    (case y_BadWeights => k_is)
    (case n_BadWeights_what => k_is)
    (case kp_Goals => k_is)
    (case pg_Goals => k_is)
    (case hd_Goals => k_is)
    (case po_Goals => k_is)
    (case sa_Goals => k_is)
    (case mk_Goals => k_is)
    (case fn_Goalsu_initu => k_is)
    (case fn_Goalsu_equ => k_is)
    (case fn_Goals_renumbered => k_is)
    (case n_Goals_ladder => k_is)
    (case n_Goals_wanted => k_is)
    (case n_Goals_knows => k_is)
    (case n_Goals_sides => k_is)
    (case kp_Costs => k_is)
    (case pg_Costs => k_is)
    (case hd_Costs => k_is)
    (case po_Costs => k_is)
    (case sa_Costs => k_is)
    (case mk_Costs => k_is)
    (case fn_Costsu_initu => k_is)
    (case fn_Costsu_equ => k_is)
    (case fn_Costs_added => k_is)
    (case fn_Costs_renumbered => k_is)
    (case n_Costs_ladder => k_is)
    (case n_Costs_lines => k_is)
    (case n_Costs_sides => k_is)
    (case kp_Weights => k_is)
    (case pg_Weights => k_is)
    (case hd_Weights => k_is)
    (case po_Weights => k_is)
    (case sa_Weights => k_is)
    (case mk_Weights => k_is)
    (case fn_Weightsu_initu => k_is)
    (case fn_Weightsu_equ => k_is)
    (case fn_Weights_plus => k_is)
    (case fn_Weights_times => k_is)
    (case fn_Weights_renumbered => k_is)
    (case n_Weights_lines => k_is)
    (case n_Weights_sides => k_is)
    (case z_ValueError => k_is)
    (case z_abs => k_is)
    (case z_all => k_is)
    (case z_bool => k_is)
    (case z_enumerate => k_is)
    (case z_int => k_is)
    (case z_isinstance => k_is)
    (case z_len => k_is)
    (case z_list => k_is)
    (case z_max => k_is)
    (case z_min => k_is)
    (case z_property => k_is)
    (case z_range => k_is)
    (case z_set => k_is)
    (case z_sorted => k_is)
    (case z_staticmethod => k_is)
    (case z_sum => k_is)
    (case z_tuple => k_is)
    (case z_zip => k_is)
    (case c_EAST => k_is)
    (case c_WEST => k_is)
    (case c_LADDER_MOST => k_is)
    (case c_KINDS_MOST => k_is)
    (case c_COUPLES_MOST => k_is)
    (case c_COST_MOST => k_is)
    (case c_TIMES_MOST => k_is)
    (case zz_i_Weights_ca => k_is)
    (case zz_i_Weights_cn => k_is)
    (case zz_i_Weights_ct => k_is)
    (case zz_i_Weights_cm => k_is)
    (case zz_i_Weights_kt => first | rfl | kernel_rfl)
    (case zz_i_Weights_nt => k_is)
    (case zz_i_Weights_ne => k_is)
    (case zz_i_Goals_ca => k_is)
    (case zz_i_Goals_cn => k_is)
    (case zz_i_Goals_ct => k_is)
    (case zz_i_Goals_cm => k_is)
    (case zz_i_Goals_kt => first | rfl | kernel_rfl)
    (case zz_i_Goals_nt => k_is)
    (case zz_i_Goals_ne => k_is)

