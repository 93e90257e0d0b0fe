import PyProof.Rows.All
import Wide.All
import OpenK.AllK
import Wide.FinOn
import PyProof.EqAt
import PyProof.EqKinds
import PyProof.TupleCall
import HandS.ForMost
import HandS.ForExc
import HandS.Wide
import HandS.IsInst
import HandS.SortInts
import HandS.Strs
import HandS.SetFor
import HandS.Conv
import HandS.Small
import HandS.Defaults
import HandS.Walk
import HandS.Flow
import HandS.Codes
import HandS.ExcInit
import HandS.ExcField
import HandS.Style
import HandS.TryMany
import PySem.Challenge.RW_risingcalls_k34_told_counts_and_least_la
import HandS.Lambda
import HandS.EndOwn
import KE.KExcIs
set_option Elab.async false
set_option linter.all false
set_option maxRecDepth 100000
set_option maxHeartbeats 2000000

/-! ### my words for readings: one lemma a construct, by the head of the reading -/
namespace Jv
open PySem PySem.Spec PyProof.Rows L2
section
variable {K : PySem.W.Frag} {σ : L2.St} {H : Hp} {D : Ends} {t u : TS} {te ta tb tc : TE} {g : TG} {tt tu : TT} {tA : TA} {i : Nat} {v x y z : V} {Q : VK} {R : Bool → Hp → Prop}
theorem r_seq (h : t { D with nx := u D } σ H) : tSeq t u D σ H := h
theorem r_asg (h : te σ H fun x H1 => g x σ H1 D.nx) : tAsg te g D σ H := h
theorem r_gn {Q : L2.St → Hp → Prop} (h : Q (σ.set i (some v)) H) : gName i v σ H Q := h
theorem r_ret (h : te σ H D.rt) : tRet te D σ H := h
theorem r_retN (h : D.rt .non H) : tRetN D σ H := h
theorem r_drop (h : te σ H fun _ H1 => D.nx σ H1) : tDrop te D σ H := h
theorem r_if (h : tt σ H fun b H1 => if b = true then t D σ H1 else u D σ H1) : tIfS tt t u D σ H := h
theorem r_next (h : D.nx σ H) : tNext D σ H := h
theorem r_brk (h : D.bk σ H) : tBreak D σ H := h
theorem r_cont (h : D.ct σ H) : tCont D σ H := h
theorem r_var (h : σ[i]? = some (some v)) (q : Q v H) : tVar i σ H Q := ⟨v, h, q⟩
theorem r_c (q : Q v H) : tC v σ H Q := q
theorem r_op {r : R2} (h : ta σ H fun x H1 => tb σ H1 fun y H2 => r x y H2 Q) : tOp r ta tb σ H Q := h
theorem r_un {r : V → Hp → VK → Prop} (h : ta σ H fun x H1 => r x H1 Q) : tUn r ta σ H Q := h
theorem r_I {C : Int → Int → Prop} {f : Int → Int → V} {a b : Int} (c : C a b) (q : Q (f a b) H) : rI C f (.int a) (.int b) H Q := ⟨a, b, rfl, rfl, c, q⟩
theorem r_I0 {f : Int → Int → V} {a b : Int} (q : Q (f a b) H) : rI0 f (.int a) (.int b) H Q := ⟨a, b, rfl, rfl, q⟩
theorem r_U {f : Int → V} {a : Int} (q : Q (f a) H) : rU f (.int a) H Q := ⟨a, rfl, q⟩
theorem r_eq (s : scal x y = true) (q : Q (.bl (decide (x = y))) H) : rEq x y H Q := ⟨s, q⟩
theorem r_ne (s : scal x y = true) (q : Q (.bl (!decide (x = y))) H) : rNe x y H Q := ⟨s, q⟩
theorem r_test (h : te σ H fun x H1 => ∃ k, x = .bl k ∧ R k H1) : tTest te σ H R := h
theorem r_B (h : te σ H fun x H1 => ∃ k, x = .bl k ∧ R k H1) : tB te σ H R := h
theorem r_bl {b : Bool} {P : Bool → Prop} (q : P b) : ∃ k, V.bl b = .bl k ∧ P k := ⟨b, rfl, q⟩
theorem r_and (h : tt σ H fun c H1 => if c = true then tu σ H1 R else R false H1) : tAnd tt tu σ H R := h
theorem r_or (h : tt σ H fun c H1 => if c = true then R true H1 else tu σ H1 R) : tOr tt tu σ H R := h
theorem r_not (h : tt σ H fun c H1 => R (!c) H1) : tNot tt σ H R := h
theorem r_andV (h : ta σ H fun x H1 => ∃ c, x = .bl c ∧ if c = true then tb σ H1 Q else Q (.bl false) H1) : tAndV ta tb σ H Q := h
theorem r_orV (h : ta σ H fun x H1 => ∃ c, x = .bl c ∧ if c = true then Q (.bl true) H1 else tb σ H1 Q) : tOrV ta tb σ H Q := h
theorem r_notV (h : ta σ H fun x H1 => ∃ c, x = .bl c ∧ Q (.bl (!c)) H1) : tNotV ta σ H Q := h
theorem r_ife (h : tt σ H fun c H1 => if c = true then ta σ H1 Q else tb σ H1 Q) : tIf tt ta tb σ H Q := h
theorem r_chain {r r' : R2} (h : ta σ H fun x H1 => tb σ H1 fun y H2 => r x y H2 fun z H3 => ∃ k, z = .bl k ∧
  (if k = true then tc σ H3 fun w' H4 => r' y w' H4 Q else Q (.bl false) H3)) : tChain r r' ta tb tc σ H Q := h
theorem r_nil {P : List V → Hp → Prop} (q : P [] H) : tNil σ H P := q
theorem r_cons {P : List V → Hp → Prop} (h : ta σ H fun x H1 => tA σ H1 fun xs H2 => P (x :: xs) H2) : tCons ta tA σ H P := h
theorem r_tup (h : tA σ H fun xs H1 => xs.length ≤ sizeLine ∧ ∀ p, H1 p = none → Q (.ref p) (upd H1 p (.tup xs))) : tTup tA σ H Q := h
theorem r_lst (h : tA σ H fun xs H1 => xs.length ≤ sizeLine ∧ ∀ p, H1 p = none → Q (.ref p) (upd H1 p (.lst xs))) : tLst tA σ H Q := h
theorem r_new {n : Nat} {P : Prop} (h1 : n ≤ 1000) (q : P) : n ≤ sizeLine ∧ P := ⟨Nat.le_trans h1 (by decide), q⟩
theorem r_CB {r : List V → Hp → VK → Prop} (h : tA σ H fun vs H1 => r vs H1 Q) : tCB r tA σ H Q := h
theorem r_call {sp : Sp} {dvs : List V} {E : XK} (h : tA σ H fun vs H1 => sp (vs ++ dvs) H1 Q E) : tCall sp dvs E tA σ H Q := h
theorem r_callS {sp : Sp} {E : L2.St → XK} (h : tA σ H fun vs H1 => sp vs H1 Q (E σ)) : tCallS sp E tA σ H Q := h
theorem r_for {wi : TI} (h : wi σ H fun J H1 => ∃ W : Nat → Nat → L2.St → Hp → Prop, (∃ m, W 0 m σ H1) ∧ ∀ i m σ H, W i m σ H →
  (J.stop i H ∧ D.nx σ H) ∨ (J.go i H ∧ ∃ N : L2.St → Hp → Prop, (∀ σ' H', N σ' H' → ∃ m', m' < m ∧ W (i + 1) m' σ' H') ∧ ∀ x H', J.yld i H x H' → g x σ H' fun σ2 H2 => t { D with nx := N, ct := N, bk := D.nx } σ2 H2)) : tFor wi g t D σ H := h
theorem r_iR1 {P : It → Hp → Prop} (h : tA σ H fun vs H1 => ∃ j : Int, vs = [.int j] ∧ -(2 ^ 62) ≤ j ∧ j < 2 ^ 62 ∧ P (Itr 0 j.toNat) H1) : iRng1 tA σ H P := h
theorem r_iR2 {P : It → Hp → Prop} (h : tA σ H fun vs H1 => ∃ i j : Int, vs = [.int i, .int j] ∧ (-(2 ^ 62) ≤ i ∧ i < 2 ^ 62 ∧ -(2 ^ 62) ≤ j ∧ j < 2 ^ 62) ∧ P (Itr i (j - i).toNat) H1) : iRng2 tA σ H P := h
theorem r_sub {to ti : TE} {w : TSet} {Q : L2.St → Hp → Prop} (h : to σ H fun o H1 => ti σ H1 fun i H2 => w o i v H2 fun H3 => Q σ H3) : gSub to ti w v σ H Q := h
theorem r_ixL {p : Addr} {xs : List V} {k : Int} (h : SqL K H p xs) (e : atI xs k = some v) (q : Q v H) : rIxL K (.ref p) (.int k) H Q := ⟨p, xs, k, v, rfl, rfl, h, e, q⟩
theorem r_ixT {p : Addr} {xs : List V} {k : Int} (h : SqT K H p xs) (e : atI xs k = some v) (q : Q v H) : rIxT K (.ref p) (.int k) H Q := ⟨p, xs, k, v, rfl, rfl, h, e, q⟩
theorem r_setL {p : Addr} {xs : List V} {k : Int} {j : Nat} {P : Hp → Prop} (h : H p = some (.lst xs)) (e : ixN xs.length k = some j) (q : P (upd H p (.lst (xs.set j v)))) : rSetL (.ref p) (.int k) v H P := ⟨p, xs, k, j, rfl, rfl, h, e, q⟩
theorem r_true {A B : Prop} {c : Bool} (e : c = true) (h : A) : if c = true then A else B := by rw [if_pos e]; exact h
theorem r_false {A B : Prop} {c : Bool} (e : c = false) (h : B) : if c = true then A else B := by rw [e, if_neg Bool.false_ne_true]; exact h
theorem r_dec {A B p : Prop} {_ : Decidable p} (h1 : p → A) (h2 : ¬ p → B) : if decide p = true then A else B := by
  by_cases h : p
  · exact r_true (decide_eq_true h) (h1 h)
  · exact r_false (decide_eq_false h) (h2 h)
theorem r_ndec {A B p : Prop} {_ : Decidable p} (h1 : ¬ p → A) (h2 : p → B) : if (!decide p) = true then A else B := by
  by_cases h : p
  · exact r_false (by rw [decide_eq_true h]; rfl) (h2 h)
  · exact r_true (by rw [decide_eq_false h]; rfl) (h1 h)
theorem r_bool {A B : Prop} {c : Bool} (h1 : c = true → A) (h2 : c = false → B) : if c = true then A else B := by
  cases c
  · exact r_false rfl (h2 rfl)
  · exact r_true rfl (h1 rfl)
theorem r_int {a : Int} {P : Int → Prop} {P' : Bool → Prop} (q : P a) : (∃ i, [V.int a] = [.int i] ∧ P i) ∨ ∃ k, [V.int a] = [.bl k] ∧ P' k := .inl ⟨a, rfl, q⟩
theorem small_of {n : Nat} (h : n ≤ 1000) : n ≤ sizeLine := Nat.le_trans h (by decide)
theorem small_lt {n : Nat} (h : n < 1000) : n < sizeLine := Nat.lt_of_lt_of_le h (by decide)
/-- what stands ahead of a new object, stands behind it -/
theorem kp {a p : Addr} {o u : HO} (h : H a = some o) (n : H p = none) : upd H p u a = some o := by rw [upd_ne (ne_of_none h n)]; exact h
theorem kpO {a l : Addr} {o u : HO} (h : H a = some o) (n : a ≠ l) : upd H l u a = some o := by rw [upd_ne n]; exact h
theorem same_new {p : Addr} {u : HO} (n : H p = none) : Same H (upd H p u) := fun _ _ e => kp e n
theorem Same.sqT {H' : Hp} {a : Addr} {xs : List V} (e : Same H H') (h : SqT K H a xs) : SqT K H' a xs := by
  rcases h with (h | ⟨o, h⟩) | h
  · exact .inl (.inl (e _ _ h))
  · exact .inl (.inr ⟨o, e _ _ h⟩)
  · exact .inr h
end
end Jv

/-! ### rules that the layer lacks: set(x), sorted(x) of a list or a tuple of ints; X() of an own exception; what the top says of exceptions -/
namespace JvS
open PySem PySem.Spec PyProof.Rows L2 SrtO
section
variable {P : Program} {w : World} {A : Around} {E : Value → Shared → Prop} {s : Shared}
/-- the empty set that set() begins with -/
abbrev emptyS (w : World) : Obj := { cls := .type "set", dict := none, data := .set #[] 0 (.fresh 0 0 (!w.params.followText "set-order")) }
theorem set_listI {l : Addr} {items : Array Value} (ns : List Int) {Q : Value → Shared → Prop} (hh : A.handled = none) (hl : s.heap.IsList l items) (hv : IntsAre items.toList ns) (few : ns.length + 1 < scanBound)
    (h : ∀ (h' : Heap) (tk c : Nat), SetR w h' s.heap.objs.size (fun j => decide (j ∈ ns)) c → c ≤ ns.length → (∀ b o, s.heap.get? b = some o → h'.get? b = some o) → Q (.ref s.heap.objs.size) { s with heap := h', toks := tk }) :
    wpAny (model P w) A (call (.type "set") [.ref l]) Q E s := by
  have sz : items.size = ns.length := by simpa using IntsAre.length hv
  obtain ⟨cM, tM, eM⟩ := F.called_set.mro
  have e1 := F.called_set.made; have e2 := F.called_set.sub; have e3 := F.called_set.notType; have e4 := F.called_set.canCreate; have e5 := F.typeCall_set_1 (.ref l)
  refine wpAny_call (codeAny_of_tree (show wpAny _ _ (callAny (.type "set") _) _ _ _ from wpAny_pure ⟨Code.quiet_builtin _ (by decide +kernel), codeAny_builtin F.entry_type_call ?_⟩))
  rw [Around.under_plain (weight_type_call_type "set" [.ref l] []) rfl]
  repeat any_goals (first | wp_step | assumption)
  refine codeAny_mono (code_set_led1 (P := P) (.ref l) (E := E) (Q₁ := fun v s1 => v = .ref s.heap.objs.size ∧ s1 = { s with heap := s.heap.push (emptyS w) }) ⟨rfl, rfl⟩) fun r s1 hr => ?_
  cases r with
  | error e => exact hr
  | ok fl =>
    cases fl with
    | next => exact hr.elim
    | brk => exact hr.elim
    | cont => exact hr.elim
    | ret v =>
      obtain ⟨rfl, rfl⟩ := hr
      have atS : (s.heap.push (emptyS w)).get? s.heap.objs.size = some (emptyS w) := Heap.get?_push_size _ rfl
      have tyS : Shared.TypeIs { s with heap := s.heap.push (emptyS w) } (.ref s.heap.objs.size) "set" := ⟨_, atS, rfl⟩
      have e6 := F.called_set.init.lookup; have e7 := F.called_set.init.bind (.ref s.heap.objs.size)
      repeat any_goals (first | wp_step | assumption)
      refine codeAny_mono (codeAny_call_builtin (R := wants (fun r s2 => r = .none ∧ ∃ h' tk c, s2 = { s with heap := h', toks := tk } ∧ SetR w h' s.heap.objs.size (fun j => decide (j ∈ ns)) c ∧ c ≤ ns.length ∧
        ∀ b o, s.heap.get? b = some o → h'.get? b = some o) E) F.called_set.init.plain F.entry_set_init (check_set_init_1 tyS ?_)) fun r2 s2 hr2 => ?_
      · have old : ∀ b o, s.heap.get? b = some o → (s.heap.push (emptyS w)).get? b = some o := fun b o q => Heap.get?_push_of_some _ q
        have lS : l < s.heap.objs.size := by obtain ⟨o, q, _⟩ := hl; exact Heap.lt_size q
        obtain ⟨⟨oc, od, dt, sl⟩, ol, q1, n1, q2⟩ := hl
        simp only at q1 q2; subst q1 q2
        have ol2 := old _ _ ol
        have isl : (s.heap.push (emptyS w)).IsList l items := ⟨_, ol2, rfl, n1, rfl⟩
        have b1 := F.sub_list_set; have b2 := F.sub_list_frozenset; have b3 : (Value.type "list" == Value.type "dict") = false := by decide
        unfold Builtin.«set.__init__» noKeywords Builtin.Frozenset.updateFrom
        generalize walkIt : pyIter = PI
        wp_walk
        subst walkIt
        refine wpAny_pyIter_list isl (wpAny_bind (wpAny_runValue ?_))
        have more : (s.heap.push (emptyS w)).objs.size = s.heap.objs.size + 1 := Heap.size_push ..
        have hh3 : A.in1.in1.in1.handled = none := by simp [hh]
        have lI : l ≠ (s.heap.push (emptyS w)).objs.size := by rw [more]; exact Nat.ne_of_lt (Nat.lt_succ_of_lt lS)
        have nS : s.heap.objs.size ∉ [(s.heap.push (emptyS w)).objs.size, l] := by
          rw [more]; simp only [List.mem_cons, List.not_mem_nil, or_false, not_or]
          exact ⟨Nat.ne_of_lt (Nat.lt_succ_self _), Nat.ne_of_gt lS⟩
        refine set_update_ints ((Walks.list hh3 _ l lI items).toS) s.heap.objs.size nS ns sz few (fun i v q => ?_) (items.size - 0) 0 _ (by omega) (Nat.zero_le _) ⟨⟨_, Heap.get?_push_size _ rfl, rfl, rfl⟩, isl.push _⟩ ⟨0, Nat.le_refl 0, setR_new_at (Heap.get?_push_of_some _ atS)⟩ fun s3 c hm hc hS => ?_
        · have hi : i < ns.length := by rw [← sz]; exact (Array.getElem?_eq_some_iff.mp q).1
          obtain ⟨t, e⟩ := PyProof.Rows.IntsAre.int_at hv i v (by rw [Array.getElem?_toList]; exact q)
          exact ⟨ns[i], t, List.getElem?_eq_getElem hi, by rw [e, List.getD_eq_getElem?_getD, List.getElem?_eq_getElem hi]; rfl⟩
        · obtain ⟨h3, g3, d3, t3, o3⟩ := s3
          obtain rfl : g3 = s.gens := hm.gens
          obtain rfl : d3 = s.drawn := hm.drawn
          obtain rfl : o3 = s.os := hm.os
          rw [sz] at hc
          refine wpAny_pure (show wpAny _ _ (ret Value.none) _ _ _ from wpAny_pure ⟨rfl, h3, t3, c, rfl, hS, hc, fun b o e => ?_⟩)
          have lb : b < s.heap.objs.size := Heap.lt_size e
          exact hm.heap b o (by
            rw [more]; simp only [List.mem_cons, List.not_mem_nil, or_false, not_or]
            exact ⟨Nat.ne_of_lt lb, Nat.ne_of_lt (Nat.lt_succ_of_lt lb)⟩) (Heap.get?_push_of_some _ (old _ _ e))
      · cases r2 with
        | error e => exact hr2
        | ok f2 =>
          cases f2 with
          | next => exact hr2.elim
          | brk => exact hr2.elim
          | cont => exact hr2.elim
          | ret r =>
            obtain ⟨rfl, h', tk, c, rfl, hS, hc, keep⟩ := hr2
            repeat any_goals (first | wp_step | assumption)
            exact h _ _ _ hS hc keep
end
end JvS
namespace Jv
open PySem PySem.Spec PyProof.Rows L2
section
variable {X : Cx}
/-- set(x), x a list or a tuple of ints -/
def rSetI (K : PySem.W.Frag) (w : World) : List V → Hp → VK → Prop := fun xs H Q => ∃ (l : Addr) (ns : List Int), xs = [.ref l] ∧ (SqL K H l (ns.map V.int) ∨ SqT K H l (ns.map V.int)) ∧ ns.length ≤ 1000 ∧
  ∀ p c, H p = none → c ≤ ns.length → Q (.ref p) (upd H p (SetO w p (fun j => decide (j ∈ ns)) c))
theorem cr_setI (hc : X.calm = true) : CallR X (.type "set") (rSetI X.K X.w) := by
  intro pins s σ H xs us Q I r h
  obtain ⟨l, ns, rfl, hs, few, q⟩ := h
  rw [Vals.ref1 r]
  have fin : ∀ (h' : Heap) (tk c : Nat), SetR X.w h' s.heap.objs.size (fun j => decide (j ∈ ns)) c → c ≤ ns.length → (∀ b o, s.heap.get? b = some o → h'.get? b = some o) →
      EP X pins σ Q (.ref s.heap.objs.size) { s with heap := h', toks := tk } := fun h' tk c R hcn keep =>
    ⟨.ref s.heap.objs.size, upd H s.heap.objs.size (SetO X.w s.heap.objs.size (fun j => decide (j ∈ ns)) c), I.laid (t' := tk) keep (Nat.le_refl _) (setO_new R), rfl, q _ c (I.hok.fresh (Nat.le_refl _)) hcn⟩
  rcases hs with hs | hs
  · obtain ⟨its, rv, hl, hz⟩ := I.list hs
    exact JvS.set_listI ns (I.ok.hd hc) hl.isList (by simpa using ints_of_vals rv) (by unfold scanBound; omega) fin
  · obtain ⟨its, rv, ht, hz⟩ := I.tuple hs
    exact call_set_tupI ns (I.ok.hd hc) (show s.heap.IsTuple l its.toArray from ht) (by simpa using ints_of_vals rv) (by unfold scanBound; omega) fin
/-- either of two rules for a call -/
theorem crOr {f : Value} {r r' : List V → Hp → VK → Prop} (h : CallR X f r) (h' : CallR X f r') : CallR X f (fun xs H Q => r xs H Q ∨ r' xs H Q) := fun pins s σ H xs us Q I rv q =>
  q.elim (fun q => h pins s σ H xs us Q I rv q) fun q => h' pins s σ H xs us Q I rv q
end
/-- an own error class without an __init__ of its own -/
structure ExcP (K : PySem.W.Frag) (C : Addr) : Prop where
  x : PySem.W.excIn K C [.type "ValueError", .type "Exception", .type "BaseException", .type "object"] "ValueError.__new__" = true
  k : PySem.W.keepIn K (.ref C) = true
  b : PySem.W.subIn K (.ref C) (.type "BaseException") = some true
  t : PySem.W.typeIn K (.ref C) = some (.type "type")
  i : PySem.W.isClsIn K C = true
  s : PySem.W.subIn K (.ref C) (.ref C) = some true
theorem exm_of {K : PySem.W.Frag} {C : Addr} (b : PySem.W.subIn K (.ref C) (.type "BaseException") = some true) (i : PySem.W.isClsIn K C = true) (t : PySem.W.typeIn K (.ref C) = some (.type "type")) (s : PySem.W.subIn K (.ref C) (.ref C) = some true) :
    PySem.W.exmOne K (.ref C) (.ref C) = some true := by
  have i' : (PySem.W.clsIn K C).isSome = true := i
  unfold PySem.W.exmOne PySem.W.kitCls
  simp [b, i', t, s]
theorem ExcP.e {K : PySem.W.Frag} {C : Addr} (h : ExcP K C) : PySem.W.exmOne K (.ref C) (.ref C) = some true := exm_of h.b h.i h.t h.s
theorem ExcP.raises {X : Cx} {C : Addr} (h : ExcP X.K C) : Raises X (.ref C) := raises_own h.b h.t
/-- .. with one, at fI -/
structure ExcI (K : PySem.W.Frag) (C fI : Addr) : Prop where
  o : OexC K C
  n : PySem.W.findIn K (.ref C) "__init__" = some (some (.ref fI))
  y : PySem.W.typeIn K (.ref fI) = some (.type "function")
  i : PySem.W.isClsIn K C = true
  s : PySem.W.subIn K (.ref C) (.ref C) = some true
  f : XfC K C
theorem ExcI.e {K : PySem.W.Frag} {C fI : Addr} (h : ExcI K C fI) : PySem.W.exmOne K (.ref C) (.ref C) = some true := exm_of h.o.exC h.i h.o.tyC h.s
section
variable {X : Cx}
/-- X() -/
theorem pmk_own0 {C : Addr} {bmB : List Value} {B newId initId : String} {x : Str} {p pos : Pos} (F : ExcBaseFacts B newId initId bmB) (q : PySem.W.excIn X.K C bmB newId = true) (gC : X.mg x = some (.ref C))
    (kC : PySem.W.keepIn X.K (.ref C) = true) (r : Raises X (.ref C)) (hg : Gl X x) (hdb : (x == ("__debug__" : Str)) = false := by decide) : PMk X (.Call (.Name x p) [] [] pos) (fun _ H Q => Q (.ref C) none H) := by
  intro pins s σ H Q I h
  refine wpAny_Call_Name_kw (ld_glob I hg gC (PySem.W.callWith_K0 I.kIn kC ?_) hdb)
  obtain ⟨bm, N, nm, qn, bs, hdct, sn, sub, ab, col, dd, k0, k1, k2, k3, k5, mN, hC, hN, hni, T⟩ := exc_obj I.kIn q
  exact wpAny_call_exc_subT F T hC hN hni (fun h' e hm => mk_of I hm r h (I.hok.gone hm.new)) (Nat.zero_le _)
end
end Jv

/-! ### binding with defaults -/
namespace Jv
open PySem PySem.Spec PyProof.Rows L2
section
variable {K : PySem.W.Frag} {fd : FuncData} {ps : List Str} {T : Addr} {o : Obj} {its : Array Value} {n : Nat}
theorem bindsD {ds : List Value} {m : Nat} (l : K.lookup T = some o) (hd : o.data = .seq its n) (hm : m + ds.length = ps.length)
    (h : ∀ us : List Value, us.length = m → ∃ k, bindArgs fd ⟨us, []⟩ = seqItems? (.ref T) >>= k ∧ k (some its) = pure (ps.zip (us ++ ds))) : Binds K fd ps ds := fun s us X hl => by
  obtain ⟨k, e1, e2⟩ := h us (by rw [List.length_append] at hl; omega)
  refine BindsTo.of_looks fun M => ?_
  rw [e1]
  exact looks_items X l hd (.of_pure e2)
theorem kbD {m : Nat} {ks : List Str} {g : List Value → List Value → List Value} {gV : List V → List V → List V} (l : K.lookup T = some o) (hd : o.data = .seq its n)
    (h : ∀ us ws : List Value, us.length = m → ws.length = ks.length → ∃ k, bindArgs fd ⟨us, ks.zip ws⟩ = seqItems? (.ref T) >>= k ∧ k (some its) = pure (ps.zip (g us ws)))
    (rel : ∀ {vs : List V} {us : List Value} {zs : List V} {ws : List Value}, Vals vs us → Vals zs ws → Vals (gV vs zs) (g us ws)) : KBn K fd ps m ks g gV := by
  refine ⟨fun s us ws X h1 h2 => ?_, rel⟩
  obtain ⟨k, e1, e2⟩ := h us ws h1 h2
  refine BindsTo.of_looks fun M => ?_
  rw [e1]
  exact looks_items X l hd (.of_pure e2)
end
end Jv
namespace Jv
open PySem PySem.Spec PyProof.Rows L2
section
variable {K : PySem.W.Frag} {σ : L2.St} {H : Hp} {D : Ends} {t u : TS} {te ta tb tc : TE} {g : TG} {tt tu : TT} {tA : TA} {i : Nat} {v x y z : V} {Q : VK} {R : Bool → Hp → Prop}
theorem r_gtup {T : Addr} {xs : List V} {n : Nat} {gs : TGs} {Q : L2.St → Hp → Prop} (h : SqT K H T xs) (hl : xs.length = n) (q : gs xs σ H Q) : gTup K n gs (.ref T) σ H Q := ⟨T, xs, rfl, h, hl, q⟩
theorem r_gcons {gs : TGs} {xs : List V} {Q : L2.St → Hp → Prop} (q : g v σ H fun σ' H' => gs xs σ' H' Q) : gCons g gs (v :: xs) σ H Q := ⟨v, xs, rfl, q⟩
theorem r_gnil {Q : L2.St → Hp → Prop} (q : Q σ H) : gNil [] σ H Q := ⟨rfl, q⟩
theorem r_lc {wi : TI} {vs : List Nat} (h : wi σ H fun J H1 => ∀ D, H1 D = none → ∃ W : Nat → Nat → Hp → Prop, (∃ m, W 0 m (upd H1 D (.lst []))) ∧ ∀ i m H, W i m H →
  (J.stop i H ∧ Q (.ref D) H) ∨ (J.go i H ∧ ∃ Nx : Hp → Prop, (∀ H', Nx H' → ∃ m', m' < m ∧ W (i + 1) m' H') ∧ ∀ x H', J.yld i H x H' → g x (wipe σ vs) H' fun σ2 H2 => wipe σ2 vs = wipe σ vs ∧ tt σ2 H2 fun b H3 =>
    if b = true then te σ2 H3 fun y H4 => ∃ acc, H4 D = some (.lst acc) ∧ acc.length < sizeLine ∧ Nx (upd H4 D (.lst (acc ++ [y]))) else Nx H3)) : tLc wi g tt te vs σ H Q := h
theorem r_iE {P : It → Hp → Prop} {a : Addr} {xs : List V} (h : SqL K H a xs) (q : P (Ite K a) H) : ∃ b ys, [V.ref a] = [.ref b] ∧ SqL K H b ys ∧ P (Ite K b) H := ⟨a, xs, rfl, h, q⟩
theorem r_iEn {P : It → Hp → Prop} (h : tA σ H fun vs H1 => ∃ b ys, vs = [.ref b] ∧ SqL K H1 b ys ∧ P (Ite K b) H1) : iEnum K tA σ H P := h
theorem r_iL {P : It → Hp → Prop} (h : te σ H fun x H1 => ∃ a, x = .ref a ∧ (∃ xs, SqL K H1 a xs) ∧ P (Itl K a) H1) : iList K te σ H P := h
theorem r_iT {P : It → Hp → Prop} (h : te σ H fun x H1 => ∃ a, x = .ref a ∧ (∃ xs, SqT K H1 a xs) ∧ P (Itt K a) H1) : iTup K te σ H P := h
theorem r_yes (q : R true H) : tYes σ H R := q
theorem r_abs {a : Int} {P : Int → Prop} (q : P (if a < 0 then -a else a)) : ∃ i, [V.int a] = [.int i] ∧ P (if i < 0 then -i else i) := ⟨a, rfl, q⟩
theorem r_ift {A B : Prop} (h : A) : if true = true then A else B := by rw [if_pos rfl]; exact h
theorem r_iff {A B : Prop} (h : B) : if false = true then A else B := by rw [if_neg Bool.false_ne_true]; exact h
end
end Jv
namespace Jv
open PySem PySem.Spec PyProof.Rows L2
section
variable {K : PySem.W.Frag} {H H' : Hp} {a p l : Addr} {xs : List V} {o u : HO}
theorem sqL_new (h : SqL K H a xs) (n : H p = none) : SqL K (upd H p u) a xs := (same_new n).seq h
theorem sqT_new (h : SqT K H a xs) (n : H p = none) : SqT K (upd H p u) a xs := Jv.Same.sqT (same_new n) h
theorem sqL_at (h : H a = some (.lst xs)) : SqL K H a xs := .inl (.inl h)
theorem sqT_at (h : H a = some (.tup xs)) : SqT K H a xs := .inl (.inl h)
theorem map_at {f : Int → V} {ns : List Int} {i : Nat} {x : V} (h : (ns.map f)[i]? = some x) : ∃ z, ns[i]? = some z ∧ x = f z := by
  rw [List.getElem?_map] at h
  cases e : ns[i]? with
  | none => rw [e] at h; cases h
  | some z => rw [e] at h; exact ⟨z, rfl, (Option.some.inj h).symm⟩
end
end Jv
namespace Jv
open PySem PySem.Spec PyProof.Rows L2
theorem r_wipe {σ1 σ2 : L2.St} {vs : List Nat} {P : Prop} (e : wipe σ1 vs = wipe σ2 vs) (q : P) : wipe σ1 vs = wipe σ2 vs ∧ P := ⟨e, q⟩
end Jv
namespace Jv
open PySem PySem.Spec PyProof.Rows L2
section
variable {K : PySem.W.Frag} {H : Hp}
def rLenK (K : PySem.W.Frag) : List V → Hp → VK → Prop := fun xs H Q => ∃ x n, xs = [x] ∧ LenV K x H n ∧ Q (.int n) H
theorem cr_len {X : Cx} : CallR X (.builtin "len") (rLenK X.K) := call_len
def rAbs : List V → Hp → VK → Prop := fun xs H Q => ∃ i, xs = [.int i] ∧ Q (.int (if i < 0 then -i else i)) H
theorem cr_abs {X : Cx} : CallR X (.builtin "abs") rAbs := call_abs
def rMin2 : List V → Hp → VK → Prop := fun xs H Q => ∃ i j, xs = [.int i, .int j] ∧ Q (.int (if j < i then j else i)) H
def rMax2 : List V → Hp → VK → Prop := fun xs H Q => ∃ i j, xs = [.int i, .int j] ∧ Q (.int (if j > i then j else i)) H
def rInt : List V → Hp → VK → Prop := fun xs H Q => (∃ i, xs = [.int i] ∧ Q (.int i) H) ∨ ∃ k, xs = [.bl k] ∧ Q (.int (if k then 1 else 0)) H
theorem cr_int {X : Cx} : CallR X (.type "int") rInt := call_int1
def rListOf (K : PySem.W.Frag) : List V → Hp → VK → Prop := fun xs H Q => ∃ p ys, xs = [.ref p] ∧ (SqL K H p ys ∨ SqT K H p ys) ∧ ∀ l, H l = none → Q (.ref l) (upd H l (.lst ys))
def rTupOf (K : PySem.W.Frag) : List V → Hp → VK → Prop := fun xs H Q => ∃ p ys, xs = [.ref p] ∧ ((SqL K H p ys ∧ ∀ l, H l = none → Q (.ref l) (upd H l (.tup ys))) ∨ (SqT K H p ys ∧ Q (.ref p) H))
section
variable {Q : VK}
theorem r_len {p : Addr} {xs : List V} (h : SqL K H p xs ∨ SqT K H p xs) (q : Q (.int xs.length) H) : rLenK K [V.ref p] H Q := ⟨_, xs.length, rfl, by
  rcases h with h | h
  · exact .inl ⟨xs, h, rfl⟩
  · exact .inr ⟨xs, h, rfl⟩, q⟩
theorem r_absN {a : Int} (q : Q (.int (if a < 0 then -a else a)) H) : rAbs [.int a] H Q := ⟨a, rfl, q⟩
theorem r_min {a b : Int} (q : Q (.int (if b < a then b else a)) H) : rMin2 [.int a, .int b] H Q := ⟨a, b, rfl, q⟩
theorem r_max {a b : Int} (q : Q (.int (if b > a then b else a)) H) : rMax2 [.int a, .int b] H Q := ⟨a, b, rfl, q⟩
theorem r_intN {a : Int} (q : Q (.int a) H) : rInt [.int a] H Q := .inl ⟨a, rfl, q⟩
theorem r_listOf {p : Addr} {ys : List V} (h : SqL K H p ys ∨ SqT K H p ys) (q : ∀ l, H l = none → Q (.ref l) (upd H l (.lst ys))) : rListOf K [.ref p] H Q := ⟨p, ys, rfl, h, q⟩
theorem r_tupOfL {p : Addr} {ys : List V} (h : SqL K H p ys) (q : ∀ l, H l = none → Q (.ref l) (upd H l (.tup ys))) : rTupOf K [.ref p] H Q := ⟨p, ys, rfl, .inl ⟨h, q⟩⟩
theorem r_tupOfT {p : Addr} {ys : List V} (h : SqT K H p ys) (q : Q (.ref p) H) : rTupOf K [.ref p] H Q := ⟨p, ys, rfl, .inr ⟨h, q⟩⟩
end
theorem r_decI {A B : Prop} {a b : Int} (h1 : a = b → A) (h2 : a ≠ b → B) : if decide (V.int a = V.int b) = true then A else B := r_dec (fun h => h1 (V.int.inj h)) fun h => h2 fun e => h (by rw [e])
theorem r_ndecI {A B : Prop} {a b : Int} (h1 : a ≠ b → A) (h2 : a = b → B) : if (!decide (V.int a = V.int b)) = true then A else B := r_ndec (fun h => h1 fun e => h (by rw [e])) fun h => h2 (V.int.inj h)
theorem ixN_of {n j : Nat} (hj : j < n) : ixN n (j : Int) = some j := by
  unfold ixN
  rw [if_pos (by omega), if_pos (by omega)]
  simp
end
end Jv
namespace Jv
open PySem PySem.Spec PyProof.Rows L2
theorem at_i {xs : List V} {k : Int} {v : V} (h0 : 0 ≤ k) (h : xs[k.toNat]? = some v) : atI xs k = some v := by
  rw [show k = ((k.toNat : Nat) : Int) by omega]
  exact atI_nat h
theorem map_get {f : Int → V} {ns : List Int} {i : Nat} (h : i < ns.length) : (ns.map f)[i]? = some (f ns[i]) := by
  rw [List.getElem?_map, List.getElem?_eq_getElem h]; rfl
end Jv

/-! ### things of any sort -/
namespace Jv
open PySem PySem.Spec PyProof.Rows L2
/-- a thing that a law hands in: a scalar, or a list, a tuple, a dict that stands -/
def Th (H : Hp) : V → Prop
  | .non => True
  | .bl _ => True
  | .int _ => True
  | .str _ => True
  | .ref a => (∃ xs, H a = some (.lst xs)) ∨ (∃ xs, H a = some (.tup xs)) ∨ ∃ kvs, H a = some (.dK kvs)
  | _ => False
def isB : V → Bool
  | .bl _ => true
  | _ => false
def isI : V → Bool
  | .int _ => true
  | _ => false
/-- a list or a tuple of xs -/
def Sq (H : Hp) (x : V) (xs : List V) : Prop := ∃ a, x = .ref a ∧ (H a = some (.lst xs) ∨ H a = some (.tup xs))
def sqOf (H : Hp) : V → Option (List V)
  | .ref a => match H a with
    | some (.lst xs) => some xs
    | some (.tup xs) => some xs
    | _ => none
  | _ => none
theorem sq_some {H : Hp} {x : V} {xs : List V} (h : sqOf H x = some xs) : Sq H x xs := by
  unfold sqOf at h
  split at h
  · rename_i a
    split at h
    · rename_i ys e; cases h; exact ⟨a, rfl, .inl e⟩
    · rename_i ys e; cases h; exact ⟨a, rfl, .inr e⟩
    · cases h
  · cases h
theorem Sq.of {H : Hp} {x : V} {xs : List V} (h : Sq H x xs) : sqOf H x = some xs := by
  obtain ⟨a, rfl, h | h⟩ := h <;> simp [sqOf, h]
theorem Sq.same {H H' : Hp} {x : V} {xs : List V} (h : Sq H x xs) (s : Same H H') : Sq H' x xs := by
  obtain ⟨a, rfl, h | h⟩ := h
  · exact ⟨a, rfl, .inl (s _ _ h)⟩
  · exact ⟨a, rfl, .inr (s _ _ h)⟩
theorem Sq.th {H : Hp} {x : V} {xs : List V} (h : Sq H x xs) : Th H x := by
  obtain ⟨a, rfl, h | h⟩ := h
  · exact .inl ⟨_, h⟩
  · exact .inr (.inl ⟨_, h⟩)
theorem Th.same {H H' : Hp} {x : V} (h : Th H x) (s : Same H H') : Th H' x := by
  cases x with
  | ref a =>
    rcases h with ⟨xs, h⟩ | ⟨xs, h⟩ | ⟨xs, h⟩
    · exact .inl ⟨xs, s _ _ h⟩
    · exact .inr (.inl ⟨xs, s _ _ h⟩)
    · exact .inr (.inr ⟨xs, s _ _ h⟩)
  | _ => exact h
theorem sqOf_same {H H' : Hp} {x : V} (h : Th H x) (s : Same H H') : sqOf H' x = sqOf H x := by
  cases x with
  | ref a => rcases h with ⟨xs, h⟩ | ⟨xs, h⟩ | ⟨xs, h⟩ <;> simp [sqOf, h, s _ _ h]
  | _ => rfl
section
variable {K : PySem.W.Frag} {H : Hp} {x : V} {Q : VK}
theorem th_ty (h : Th H x) : ∃ t, TyX K H x (.type t) ∧ kitB t "bool" = some (isB x) ∧ kitB t "int" = some (isB x || isI x) ∧ kitB t "list" = some (t == "list") ∧ kitB t "tuple" = some (t == "tuple") ∧ ((t == "list") || (t == "tuple")) = (sqOf H x).isSome := by
  cases x with
  | non => exact ⟨_, .base .non, (by decide +kernel : kitB "NoneType" "bool" = some false), (by decide +kernel : kitB "NoneType" "int" = some false), by decide +kernel, by decide +kernel, (by decide +kernel : (("NoneType" == "list") || ("NoneType" == "tuple")) = false)⟩
  | bl b => exact ⟨_, .base (.bl b), (by decide +kernel : kitB "bool" "bool" = some true), (by decide +kernel : kitB "bool" "int" = some true), by decide +kernel, by decide +kernel, (by decide +kernel : (("bool" == "list") || ("bool" == "tuple")) = false)⟩
  | int i => exact ⟨_, .base (.int i), (by decide +kernel : kitB "int" "bool" = some false), (by decide +kernel : kitB "int" "int" = some true), by decide +kernel, by decide +kernel, (by decide +kernel : (("int" == "list") || ("int" == "tuple")) = false)⟩
  | str i => exact ⟨_, .base (.str i), (by decide +kernel : kitB "str" "bool" = some false), (by decide +kernel : kitB "str" "int" = some false), by decide +kernel, by decide +kernel, (by decide +kernel : (("str" == "list") || ("str" == "tuple")) = false)⟩
  | ref a =>
    rcases h with ⟨xs, h⟩ | ⟨xs, h⟩ | ⟨xs, h⟩
    · exact ⟨_, .base (.lst h), (by decide +kernel : kitB "list" "bool" = some false), (by decide +kernel : kitB "list" "int" = some false), by decide +kernel, by decide +kernel, by simp [sqOf, h]⟩
    · exact ⟨_, .base (.tup h), (by decide +kernel : kitB "tuple" "bool" = some false), (by decide +kernel : kitB "tuple" "int" = some false), by decide +kernel, by decide +kernel, by simp [sqOf, h]⟩
    · exact ⟨_, .base (.dK h), (by decide +kernel : kitB "dict" "bool" = some false), (by decide +kernel : kitB "dict" "int" = some false), by decide +kernel, by decide +kernel, by simp [sqOf, h]⟩
  | byt _ => exact h.elim
  | flt _ => exact h.elim
  | ty _ => exact h.elim
theorem r_isB (h : Th H x) (q : Q (.bl (isB x)) H) : rIsi K [x, .ty "bool"] H Q := by
  obtain ⟨t, h1, h2, _⟩ := th_ty (K := K) h
  exact ⟨x, _, _, _, _, rfl, .ty _, h1, kit_ty h2, q⟩
theorem r_isI (h : Th H x) (q : Q (.bl (isB x || isI x)) H) : rIsi K [x, .ty "int"] H Q := by
  obtain ⟨t, h1, _, h2, _⟩ := th_ty (K := K) h
  exact ⟨x, _, _, _, _, rfl, .ty _, h1, kit_ty h2, q⟩
theorem r_isS {p : Addr} (hp : H p = some (.tup [.ty "list", .ty "tuple"])) (h : Th H x) (q : Q (.bl (sqOf H x).isSome) H) : rIsiT K [x, .ref p] H Q := by
  obtain ⟨t, h1, _, _, h2, h3, h4⟩ := th_ty (K := K) h
  refine ⟨x, p, _, _, _, (sqOf H x).isSome, rfl, hp, .cons (.ty _) (.cons (.ty _) .nil), h1, ?_, q⟩
  refine kitAny_cons (kit_ty h2) (fun e => ?_) fun e => by rw [← h4, e]; rfl
  refine kitAny_cons (kit_ty h3) (fun e2 => ?_) fun e2 => by rw [← h4, e2, Bool.or_true]
  rw [kitAny_nil, ← h4, e, e2]; rfl
theorem r_rfl {a : V} {P : Prop} (q : P) : a = a ∧ P := ⟨rfl, q⟩
end
/-- is_whole's answer -/
def loOk : V → Int → Bool
  | .int l, i => decide (l ≤ i)
  | _, _ => true
def hiOk : V → Int → Bool
  | .int l, i => decide (i ≤ l)
  | _, _ => true
def wholeV : V → V → V → Bool
  | .int i, lo, hi => loOk lo i && hiOk hi i
  | _, _, _ => false
def Bd (x : V) : Prop := x = .non ∨ ∃ i, x = .int i
theorem wholeV_int {x : V} {l h : Int} : wholeV x (.int l) (.int h) = true → ∃ i, x = .int i ∧ l ≤ i ∧ i ≤ h := by
  intro q
  cases x with
  | int i => simp [wholeV, loOk, hiOk] at q; exact ⟨i, rfl, q⟩
  | _ => cases q
end Jv
namespace Jv
open PySem PySem.Spec PyProof.Rows L2
theorem wholeV_lo0 {i a : Int} {hi : V} (h : i < a) : wholeV (.int i) (.int a) hi = false := by
  show (decide (a ≤ i) && hiOk hi i) = false
  rw [decide_eq_false (by omega), Bool.false_and]
theorem wholeV_lo1 {i a : Int} {hi : V} (h : ¬ i < a) : wholeV (.int i) (.int a) hi = hiOk hi i := by
  show (decide (a ≤ i) && hiOk hi i) = _
  rw [decide_eq_true (by omega), Bool.true_and]
theorem r_dec1 {A B p : Prop} {_ : Decidable p} (h : p) (q : A) : if decide p = true then A else B := r_true (decide_eq_true h) q
theorem r_dec0 {A B p : Prop} {_ : Decidable p} (h : ¬ p) (q : B) : if decide p = true then A else B := r_false (decide_eq_false h) q
end Jv

/-! ### walks over a list or a tuple; comprehensions whose elements are told by a function -/
namespace Jv
open PySem PySem.Spec PyProof.Rows L2
theorem piOr {X : Cx} {tg it : Expr} {w1 w2 : TI} (h : PI X tg it w1) (h' : PI X tg it w2) : PI X tg it (fun σ H R => w1 σ H R ∨ w2 σ H R) := ⟨fun pins s σ H R I q => q.elim (h.run pins s σ H R I) (h'.run pins s σ H R I)⟩
section
variable {K : PySem.W.Frag} {σ : L2.St} {H : Hp} {te : TE} {Q : VK} {xs : List V} {j i : Nat} {x : V}
theorem wipe1 {v : Option V} : wipe ((σ.set j none).set j v) [j] = wipe σ [j] := by
  show ((σ.set j none).set j v).set j none = σ.set j none
  rw [List.set_set, List.set_set]
theorem take_more {α : Type} {l : List α} {i : Nat} {x : α} (h : l[i]? = some x) : l.take (i + 1) = l.take i ++ [x] := by
  rw [List.take_add_one, h]; rfl
theorem lcF {J : It} {G : Hp → Prop} (w : Walk J xs.length G (YAt xs)) (hG : ∀ H', Same H H' → G H') (f : V → V) (few : xs.length ≤ 1000)
    (hs : ∀ v H1, v ∈ xs → Same H H1 → ∀ P : VK, (∀ H2, Same H1 H2 → P (f v) H2) → te ((σ.set j none).set j (some v)) H1 P)
    (hd : ∀ D H1, Same H H1 → H D = none → H1 D = some (.lst (xs.map f)) → Q (.ref D) H1) : ∀ D, H D = none → ∃ W : Nat → Nat → Hp → Prop, (∃ m, W 0 m (upd H D (.lst []))) ∧ ∀ i m H, W i m H →
      (J.stop i H ∧ Q (.ref D) H) ∨ (J.go i H ∧ ∃ Nx : Hp → Prop, (∀ H', Nx H' → ∃ m', m' < m ∧ W (i + 1) m' H') ∧ ∀ x H', J.yld i H x H' → gName j x (wipe σ [j]) H' fun σ2 H2 => wipe σ2 [j] = wipe σ [j] ∧ tYes σ2 H2 fun b H3 =>
        if b = true then te σ2 H3 fun y H4 => ∃ acc, H4 D = some (.lst acc) ∧ acc.length < sizeLine ∧ Nx (upd H4 D (.lst (acc ++ [y]))) else Nx H3) := by
  intro D hD
  refine lc_it w (fun i H1 => Same H H1 ∧ H1 D = some (.lst ((xs.take i).map f))) ⟨same_new hD, upd_same⟩ (fun i H1 _ h => hG H1 h.1) ?_ ?_
  · rintro i x H1 H2 hi ⟨s1, e1⟩ ⟨rfl, hx⟩
    refine ⟨wipe1, ?_⟩
    refine r_yes ?_
    refine r_true (c := true) rfl ?_
    refine hs x _ (List.mem_of_getElem? hx) s1 _ fun H3 s3 => ⟨_, s3 _ _ e1, ?_, ?_, ?_⟩
    · rw [List.length_map, List.length_take]; exact small_lt (by omega)
    · intro b o e; exact kpO (s3 _ _ (s1 b o e)) (ne_of_none e hD)
    · rw [upd_same, take_more hx, List.map_append]; rfl
  · rintro H1 ⟨s1, e1⟩
    rw [List.take_length] at e1
    exact hd D H1 s1 hD e1
/-- over a name that holds a list | a tuple | either -/
theorem lcL {a : Addr} (hv : σ[i]? = some (some (.ref a))) (hx : SqL K H a xs) (f : V → V) (few : xs.length ≤ 1000)
    (hs : ∀ v H1, v ∈ xs → Same H H1 → ∀ P : VK, (∀ H2, Same H1 H2 → P (f v) H2) → te ((σ.set j none).set j (some v)) H1 P)
    (hd : ∀ D H1, Same H H1 → H D = none → H1 D = some (.lst (xs.map f)) → Q (.ref D) H1) : tLc (iList K (tVar i)) (gName j) tYes te [j] σ H Q :=
  ⟨_, hv, a, rfl, ⟨xs, hx⟩, lcF walk_list (fun H' s => s.seq hx) f few hs hd⟩
theorem lcT {a : Addr} (hv : σ[i]? = some (some (.ref a))) (hx : SqT K H a xs) (f : V → V) (few : xs.length ≤ 1000)
    (hs : ∀ v H1, v ∈ xs → Same H H1 → ∀ P : VK, (∀ H2, Same H1 H2 → P (f v) H2) → te ((σ.set j none).set j (some v)) H1 P)
    (hd : ∀ D H1, Same H H1 → H D = none → H1 D = some (.lst (xs.map f)) → Q (.ref D) H1) : tLc (iTup K (tVar i)) (gName j) tYes te [j] σ H Q :=
  ⟨_, hv, a, rfl, ⟨xs, hx⟩, lcF walk_tup (fun H' s => Jv.Same.sqT s hx) f few hs hd⟩
theorem lcS (hv : σ[i]? = some (some x)) (hx : Sq H x xs) (f : V → V) (few : xs.length ≤ 1000)
    (hs : ∀ v H1, v ∈ xs → Same H H1 → ∀ P : VK, (∀ H2, Same H1 H2 → P (f v) H2) → te ((σ.set j none).set j (some v)) H1 P)
    (hd : ∀ D H1, Same H H1 → H D = none → H1 D = some (.lst (xs.map f)) → Q (.ref D) H1) : tLc (fun σ H R => iList K (tVar i) σ H R ∨ iTup K (tVar i) σ H R) (gName j) tYes te [j] σ H Q := by
  obtain ⟨a, rfl, h | h⟩ := hx
  · exact .inl (lcL hv (sqL_at h) f few hs hd)
  · exact .inr (lcT hv (sqT_at h) f few hs hd)
theorem r_all {D : Addr} {f : V → Bool} (h : H D = some (.lst (xs.map fun v => V.bl (f v)))) (q : Q (.bl (xs.all f)) H) : rAll K [.ref D] H Q := by
  refine ⟨D, xs.map f, rfl, sqL_at (by rw [h, List.map_map]; rfl), ?_⟩
  rw [List.all_map]; exact q
theorem Sq.len (h : Sq H x xs) (q : Q (.int xs.length) H) : rLenK K [x] H Q := by
  obtain ⟨a, rfl, h | h⟩ := h
  · exact r_len (.inl (sqL_at h)) q
  · exact r_len (.inr (sqT_at h)) q
theorem Sq.ix (h : Sq H x xs) {k : Int} {v : V} (e : atI xs k = some v) (q : Q v H) : rIx K x (.int k) H Q := by
  obtain ⟨a, rfl, h | h⟩ := h
  · exact .inl (r_ixL (sqL_at h) e q)
  · exact .inr (.inl (r_ixT (sqT_at h) e q))
end
end Jv

/-! ### sorted(t) of a tuple of ints -/
namespace JvS
open PySem PySem.Spec PyProof.Rows L2 SrtO
section
variable {P : Program} {w : World} {A : Around} {E : Value → Shared → Prop} {s : Shared}
/-- the list that collect makes -/
abbrev colH (h : Heap) (vs : List Value) : Heap := (h.push (seqObj "list" #[] 0)).update h.objs.size (Obj.mapSeq (· ++ vs.toArray))
theorem collect_tup {l : Addr} {vs : List Value} {Q : List Value → Shared → Prop} (hl : s.heap.IsTuple l vs.toArray) (h : Q vs { s with heap := colH s.heap vs }) (hsz : vs.length ≤ sizeLine) :
    wpAny (model P w) A (collect (.ref l)) Q E s := by
  obtain ⟨o, ho, hc, n, hd⟩ := id hl
  have ho2 : (s.heap.push (seqObj "list" #[] 0)).get? l = some o := Heap.get?_push_of_some _ ho
  have new : (s.heap.push (seqObj "list" #[] 0)).get? s.heap.objs.size = some (seqObj "list" #[] 0) := Heap.get?_push_size _ rfl
  unfold collect
  refine wpAny_bind (wpAny_runValue (codeAny_builtin entry_proto_collect' (show wpAny _ _ (do again (.builtin "list.__iadd__" ⟨[← newList [], .ref l], []⟩)) _ _ s from
    wpAny_bind (wpAny_newList (wpAny_pure ⟨Code.quiet_builtin _ (by decide +kernel), codeAny_builtin entry_list_iadd' ?_⟩)))))
  show wpAny _ _ (Builtin.List.listExtendWith (.ref s.heap.objs.size) (.ref l) (.ref s.heap.objs.size)) _ _ { s with heap := s.heap.push (seqObj "list" #[] 0) }
  unfold Builtin.List.listExtendWith
  refine wpAny_bind (wpAny_typeOf (T := "tuple") ⟨o, ho2, hc⟩ ?_)
  rw [if_pos (by have e : (Value.type "tuple" == Value.type "tuple") = true := rfl
                 rw [e]; simp)]
  refine wpAny_bind (listItems_at ho2 hd (wpAny_bind (listItems_at (xs := #[]) (n := 0) new rfl ?_)))
  rw [if_neg (by simp)]
  refine wpAny_bind (listUpdate_at (xs := #[]) (n := 0) new rfl (wpAny_pure ?_) (Nat.zero_le _) (by show (#[] ++ vs.toArray).size ≤ sizeLine + 1; simp; omega))
  show wpAny (model P w) A (do
      let o ← load s.heap.objs.size
      match o.data with
      | .seq ys _ => pure ys.toList
      | _ => unsupported "internal:collect") Q E { s with heap := colH s.heap vs }
  refine wpAny_bind (wpAny_load (get?_update_seq new _) (show wpAny _ _ (pure ((#[] : Array Value) ++ vs.toArray).toList) Q E _ from ?_))
  rw [show ((#[] : Array Value) ++ vs.toArray).toList = vs by simp]
  exact wpAny_pure h
theorem sorted_tup {l : Addr} {vs : List Value} {ltv : Value → Value → Bool} {Q : Value → Shared → Prop} (O : Swo ltv) (hl : s.heap.IsTuple l vs.toArray) (hz : vs.length ≤ sizeLine)
    (hS : 2 ≤ vs.length → ∀ (h₁ : Heap) (a : Addr), h₁.get? a = some (seqObj "list" vs.toArray 0) → (∀ b o, s.heap.get? b = some o → b ≠ a ∧ h₁.get? b = some o) → SortableO P w A.in1.in1 { s with heap := h₁ } a vs ltv)
    (h : ∀ out : List Value, Srtd ltv out → Stb ltv out vs → Q (.ref (s.heap.objs.size + 1)) { s with heap := sortedAll s.heap vs out.toArray }) :
    wpAny (model P w) A (call (.builtin "sorted") [.ref l]) Q E s := by
  refine Calls.call_function_entry kind_sorted plain_sorted entry_sorted (args_sorted1 _) ?_
  unfold Builtin.«sorted»
  refine wpAny_bind (m := checkCount "sorted" 1 1 _) (wpAny_pure (wpAny_bind (collect_tup hl (wpAny_bind (wpAny_newList ?_ hz)) hz)))
  have size1 : (colH s.heap vs).objs.size = s.heap.objs.size + 1 := by rw [Heap.size_update, size_push']
  have at2 : ((colH s.heap vs).push (seqObj "list" vs.toArray 0)).get? (s.heap.objs.size + 1) = some (seqObj "list" vs.toArray 0) := by
    rw [← size1]; exact Heap.get?_push_size _ rfl
  have old : ∀ b o, s.heap.get? b = some o → b ≠ s.heap.objs.size + 1 ∧ ((colH s.heap vs).push (seqObj "list" vs.toArray 0)).get? b = some o := fun b o q => by
    have lt := Heap.lt_size q
    refine ⟨Nat.ne_of_lt (Nat.lt_succ_of_lt lt), Heap.get?_push_of_some _ ?_⟩
    rw [Heap.get?_update_ne _ _ _ _ (Nat.ne_of_lt lt)]
    exact Heap.get?_push_of_some _ q
  show wpAny _ _ _ _ _ { s with heap := (colH s.heap vs).push (seqObj "list" vs.toArray 0) }
  rw [size1]
  refine wpAny_bind (wpAny_holding (wpAny_call_entry slot_list_sort ⟨_, at2, rfl⟩ entry_list_sort (list_sort_ord O at2 hz (fun h2 => hS h2 _ _ at2 old) fun out a b => ⟨_, rfl, wpAny_pure ⟨_, rfl, h out a b⟩⟩) (args_list_sort _)))
end
end JvS
namespace Jv
open PySem PySem.Spec PyProof.Rows L2
section
variable {X : Cx}
/-- sorted(x), x a list or a tuple of ints -/
def rSortIT (K : PySem.W.Frag) : List V → Hp → VK → Prop := fun vs H Q => ∃ (a : Addr) (ns : List Int), vs = [V.ref a] ∧ (SqL K H a (ns.map V.int) ∨ SqT K H a (ns.map V.int)) ∧
  ∀ (ns' : List Int) (p : Addr), ns'.Perm ns → ns'.Pairwise (· ≤ ·) → H p = none → Q (.ref p) (upd H p (.lst (ns'.map V.int)))
theorem cr_sortIT : CallR X (.builtin "sorted") (rSortIT X.K) := by
  intro pins s σ H vs us Q I r h
  obtain ⟨a, ns, rfl, hs | hs, q⟩ := h
  · exact cr_sortedI pins s σ H _ us Q I r ⟨a, ns, rfl, hs, q⟩
  · obtain ⟨its, rv, ht, hz⟩ := I.tuple hs
    rw [Vals.ref1 r]
    have hi := rv.ints
    rw [List.length_map] at hz
    have hz2 : its.length ≤ sizeLine := by rw [← rv.length, List.length_map]; exact hz
    refine JvS.sorted_tup SrtO.swo_int (show s.heap.IsTuple a its.toArray from ht) hz2 (fun h2 _ _ _ _ => SrtO.ints_sortable hi h2) fun out h1 h2 => ?_
    obtain ⟨k1, k2, k3⟩ := SrtO.ints_out hi h1 h2
    obtain ⟨ep, he⟩ := PyProof.Rows.sortedAll_at s.heap its out.toArray
    refine ⟨.ref _, upd H (s.heap.objs.size + 1) (.lst ((out.map SrtO.iv).map V.int)), I.laid (t' := s.toks) (fun _ _ => PyProof.Rows.sortedAll_old) (Nat.le_succ _) ⟨?_, out, ep, vals_of_ints k1, he⟩, rfl, q _ _ k2 k3 (I.hok.fresh (Nat.le_succ _))⟩
    rw [List.length_map, k2.length_eq]; exact hz
end
/-! ### data of ints -/
theorem canAll_ints : ∀ ns : List Int, PyData.canLayAll0 (ns.map PyData.int) = true
  | [] => by simp [PyData.canLayAll0]
  | a :: r => by simp [PyData.canLayAll0, PyData.canLay0, canAll_ints r]
theorem depAll_ints : ∀ ns : List Int, PyData.depthAll (ns.map PyData.int) = 0
  | [] => by simp [PyData.depthAll]
  | a :: r => by simp [PyData.depthAll, PyData.depth, depAll_ints r]
theorem shapedL (ns : List Int) : SeqAt.shaped (.list (ns.map .int)) = true := by simp [SeqAt.shaped, PyData.canLay0, PyData.depth, canAll_ints, depAll_ints]
theorem shapedT (ns : List Int) : SeqAt.shaped (.tuple (ns.map .int)) = true := by simp [SeqAt.shaped, PyData.canLay0, PyData.depth, canAll_ints, depAll_ints]
theorem eqvAll_ints : ∀ a b : List Int, PyData.eqvAll (a.map .int) (b.map .int) = decide (a = b)
  | [], [] => by simp [PyData.eqvAll]
  | [], _ :: _ => by simp [PyData.eqvAll]
  | _ :: _, [] => by simp [PyData.eqvAll]
  | x :: a, y :: b => by
    simp only [List.map_cons, PyData.eqvAll, PyData.eqv, eqvAll_ints a b]
    by_cases h : x = y <;> by_cases g : a = b <;> simp [h, g]
theorem eqvL (a b : List Int) : PyData.eqv (.list (a.map .int)) (.list (b.map .int)) = decide (a = b) := by rw [PyData.eqv, eqvAll_ints]
theorem eqvT (a b : List Int) : PyData.eqv (.tuple (a.map .int)) (.tuple (b.map .int)) = decide (a = b) := by rw [PyData.eqv, eqvAll_ints]
section
variable {K : PySem.W.Frag} {H : Hp}
theorem dpAll_ints : ∀ ns : List Int, DpAll K H (ns.map V.int) (ns.map PyData.int)
  | [] => .nil
  | a :: r => .cons (.int a) (dpAll_ints r)
theorem dpL {a : Addr} {ns : List Int} (h : SqL K H a (ns.map V.int)) : Dp K H (.ref a) (.list (ns.map .int)) := .lst h (dpAll_ints ns)
theorem dpT {a : Addr} {ns : List Int} (h : SqT K H a (ns.map V.int)) : Dp K H (.ref a) (.tuple (ns.map .int)) := .tup h (dpAll_ints ns)
end
end Jv

/-! ### kinds, lots, orders -/
namespace Jv
open PySem PySem.Spec PyProof.Rows L2
def intsV : List V → Option (List Int)
  | [] => some []
  | .int i :: r => (intsV r).map (i :: ·)
  | _ :: _ => none
theorem iv_map : ∀ ns : List Int, intsV (ns.map V.int) = some ns
  | [] => rfl
  | a :: r => by simp [intsV, iv_map r]
theorem iv_of : ∀ {xs : List V} {ns : List Int}, intsV xs = some ns → xs = ns.map V.int
  | [], ns, h => by cases h; rfl
  | .int i :: r, ns, h => by
    cases e : intsV r with
    | none => simp [intsV, e] at h
    | some m => simp [intsV, e] at h; subst h; rw [iv_of e]; rfl
  | .non :: _, _, h => by cases h
  | .bl _ :: _, _, h => by cases h
  | .str _ :: _, _, h => by cases h
  | .byt _ :: _, _, h => by cases h
  | .flt _ :: _, _, h => by cases h
  | .ref _ :: _, _, h => by cases h
  | .ty _ :: _, _, h => by cases h
/-- what a sequence's items must be for the program to look at them -/
def ThS (H : Hp) (x : V) : Prop := Th H x ∧ ∀ xs, Sq H x xs → xs.length ≤ 60 ∧ ∀ v ∈ xs, Th H v
theorem ThS.same {H H' : Hp} {x : V} (h : ThS H x) (s : Same H H') : ThS H' x := ⟨h.1.same s, fun xs q => by
  have e := q.of
  rw [sqOf_same h.1 s] at e
  obtain ⟨a, b⟩ := h.2 xs (sq_some e)
  exact ⟨a, fun v m => (b v m).same s⟩⟩
def kindsB (H : Hp) (x : V) (k : Int) : Bool := match sqOf H x with
  | some xs => xs.all fun v => wholeV v (.int 0) (.int (k - 1))
  | none => false
def inK (k : Int) (ns : List Int) : Prop := ∀ n ∈ ns, 0 ≤ n ∧ n ≤ k - 1
theorem whole_all {k : Int} : ∀ {xs : List V}, (xs.all fun v => wholeV v (.int 0) (.int (k - 1))) = true → ∃ ns, xs = ns.map V.int ∧ inK k ns
  | [], _ => ⟨[], rfl, fun _ h => by cases h⟩
  | x :: r, h => by
    rw [List.all_cons, Bool.and_eq_true] at h
    obtain ⟨i, rfl, h1, h2⟩ := wholeV_int h.1
    obtain ⟨ns, rfl, h3⟩ := whole_all h.2
    refine ⟨i :: ns, rfl, fun n hn => ?_⟩
    rcases List.mem_cons.mp hn with rfl | hn
    · exact ⟨h1, h2⟩
    · exact h3 n hn
theorem all_whole {k : Int} {ns : List Int} (h : inK k ns) : ((ns.map V.int).all fun v => wholeV v (.int 0) (.int (k - 1))) = true := by
  rw [List.all_map, List.all_eq_true]
  intro n hn
  obtain ⟨a, b⟩ := h n hn
  show (decide (0 ≤ n) && decide (n ≤ k - 1)) = true
  rw [decide_eq_true a, decide_eq_true b]; rfl
instance {k : Int} {ns : List Int} : Decidable (inK k ns) := inferInstanceAs (Decidable (∀ n ∈ ns, _))
theorem whole_all_iff {k : Int} {ns : List Int} : ((ns.map V.int).all fun v => wholeV v (.int 0) (.int (k - 1))) = decide (inK k ns) := by
  by_cases h : inK k ns
  · rw [all_whole h, decide_eq_true h]
  · rw [decide_eq_false h]
    cases e : (ns.map V.int).all fun v => wholeV v (.int 0) (.int (k - 1)) with
    | false => rfl
    | true =>
      obtain ⟨ms, e2, h2⟩ := whole_all e
      have e3 : ns = ms := by have q := iv_map ns; rw [e2, iv_map] at q; cases q; rfl
      exact absurd (e3 ▸ h2) h
theorem sorted_ext : ∀ {a b : List Int}, a.Pairwise (· < ·) → b.Pairwise (· < ·) → (∀ n, n ∈ a ↔ n ∈ b) → a = b
  | [], [], _, _, _ => rfl
  | [], y :: _, _, _, h => absurd ((h y).mpr List.mem_cons_self) (by simp)
  | x :: _, [], _, _, h => absurd ((h x).mp List.mem_cons_self) (by simp)
  | x :: a, y :: b, ha, hb, h => by
    have ha' := List.pairwise_cons.mp ha
    have hb' := List.pairwise_cons.mp hb
    have e : x = y := by
      rcases List.mem_cons.mp ((h x).mp List.mem_cons_self) with e | m1
      · exact e
      · rcases List.mem_cons.mp ((h y).mpr List.mem_cons_self) with e | m2
        · exact e.symm
        · have q1 := hb'.1 x m1
          have q2 := ha'.1 y m2
          omega
    subst e
    congr 1
    refine sorted_ext ha'.2 hb'.2 fun n => ⟨fun m => ?_, fun m => ?_⟩
    · rcases List.mem_cons.mp ((h n).mp (List.mem_cons_of_mem _ m)) with e | q
      · subst e; exact absurd (ha'.1 n m) (by omega)
      · exact q
    · rcases List.mem_cons.mp ((h n).mpr (List.mem_cons_of_mem _ m)) with e | q
      · subst e; exact absurd (hb'.1 n m) (by omega)
      · exact q
def lotP (k : Int) (ns : List Int) : Prop := inK k ns ∧ 0 < ns.length ∧ ns.Pairwise (· < ·)
instance {k : Int} {ns : List Int} : Decidable (lotP k ns) := inferInstanceAs (Decidable (_ ∧ _))
def lotV (H : Hp) (x : V) (k : Int) : Bool := match sqOf H x with
  | some xs => match intsV xs with
    | some ns => decide (lotP k ns)
    | none => false
  | none => false
theorem set_eq {ns ms : List Int} (h1 : ms.Pairwise (· < ·)) (h2 : ∀ k : Int, k ∈ ms ↔ decide (k ∈ ns) = true) : (ns = ms) ↔ ns.Pairwise (· < ·) :=
  ⟨fun e => e ▸ h1, fun h => sorted_ext h h1 fun n => by rw [h2 n, decide_eq_true_iff]⟩
def orderP (k : Int) (ns : List Int) : Prop := inK k ns ∧ ns.Perm ((List.range k.toNat).map fun (i : Nat) => (i : Int))
instance {k : Int} {ns : List Int} : Decidable (orderP k ns) := inferInstanceAs (Decidable (_ ∧ _))
theorem range_sorted (n : Nat) : ((List.range n).map fun (i : Nat) => (i : Int)).Pairwise (· ≤ ·) := by
  rw [List.pairwise_map]
  exact List.pairwise_lt_range.imp fun h => by omega
theorem sorted_perm {a b : List Int} (ha : a.Pairwise (· ≤ ·)) (hb : b.Pairwise (· ≤ ·)) (h : a.Perm b) : a = b :=
  List.Perm.eq_of_pairwise (fun x y _ _ h1 h2 => by omega) ha hb h
def orderV (H : Hp) (x : V) (k : Int) : Bool := match sqOf H x with
  | some xs => match intsV xs with
    | some ns => decide (orderP k ns)
    | none => false
  | none => false
end Jv
namespace Jv
open PySem PySem.Spec PyProof.Rows L2
section
variable {H : Hp} {x : V} {k : Int} {ns : List Int}
theorem lotV_of (e : sqOf H x = some (ns.map V.int)) : lotV H x k = decide (lotP k ns) := by
  unfold lotV; rw [e]; dsimp only; rw [iv_map]
theorem orderV_of (e : sqOf H x = some (ns.map V.int)) : orderV H x k = decide (orderP k ns) := by
  unfold orderV; rw [e]; dsimp only; rw [iv_map]
theorem kindsB_of (e : sqOf H x = some (ns.map V.int)) : kindsB H x k = decide (inK k ns) := by
  unfold kindsB; rw [e]; exact whole_all_iff
theorem kindsB_true (h : kindsB H x k = true) : ∃ ns, sqOf H x = some (ns.map V.int) ∧ inK k ns := by
  unfold kindsB at h
  cases e : sqOf H x with
  | none => rw [e] at h; cases h
  | some xs =>
    rw [e] at h
    obtain ⟨ns, rfl, q⟩ := whole_all h
    exact ⟨ns, rfl, q⟩
theorem lotV_false (h : kindsB H x k = false) : lotV H x k = false := by
  cases e : sqOf H x with
  | none => unfold lotV; rw [e]
  | some xs =>
    cases e2 : intsV xs with
    | none => unfold lotV; rw [e]; dsimp only; rw [e2]
    | some ns =>
      obtain rfl := iv_of e2
      rw [lotV_of e, decide_eq_false]
      rintro ⟨h1, _⟩
      rw [kindsB_of e, decide_eq_true h1] at h; cases h
theorem orderV_false (h : kindsB H x k = false) : orderV H x k = false := by
  cases e : sqOf H x with
  | none => unfold orderV; rw [e]
  | some xs =>
    cases e2 : intsV xs with
    | none => unfold orderV; rw [e]; dsimp only; rw [e2]
    | some ns =>
      obtain rfl := iv_of e2
      rw [orderV_of e, decide_eq_false]
      rintro ⟨h1, _⟩
      rw [kindsB_of e, decide_eq_true h1] at h; cases h
theorem lotV_true (h : lotV H x k = true) : ∃ ns, sqOf H x = some (ns.map V.int) ∧ lotP k ns := by
  cases e : sqOf H x with
  | none => unfold lotV at h; rw [e] at h; cases h
  | some xs =>
    cases e2 : intsV xs with
    | none => unfold lotV at h; rw [e] at h; dsimp only at h; rw [e2] at h; cases h
    | some ns =>
      obtain rfl := iv_of e2
      rw [lotV_of e] at h
      exact ⟨ns, rfl, of_decide_eq_true h⟩
theorem Sq.or {K : PySem.W.Frag} {a : Addr} {xs : List V} (h : H a = some (.lst xs) ∨ H a = some (.tup xs)) : SqL K H a xs ∨ SqT K H a xs := h.elim (fun h => .inl (sqL_at h)) fun h => .inr (sqT_at h)
end
end Jv
namespace Jv
open PySem PySem.Spec PyProof.Rows L2
theorem rgV0 {k : Int} : rgV 0 k = ((List.range k.toNat).map fun (i : Nat) => (i : Int)).map V.int := by
  unfold rgV
  rw [List.map_map, Int.sub_zero]
  refine List.map_congr_left fun i _ => ?_
  show V.int (0 + (i : Int)) = V.int i
  rw [Int.zero_add]
end Jv

/-! ### pairs of two ranges; data as lists of pairs -/
namespace Jv
open PySem PySem.Spec PyProof.Rows L2
/-- references to tuples of two ints that stand -/
def Tups (H : Hp) (refs : List V) (prs : List (Int × Int)) : Prop := Paired (fun v (pr : Int × Int) => ∃ t, v = V.ref t ∧ H t = some (.tup [.int pr.1, .int pr.2])) refs prs
theorem Paired.mono' {α β : Type} {F G : α → β → Prop} (h : ∀ a b, F a b → G a b) : ∀ {xs : List α} {ys : List β}, Paired F xs ys → Paired G xs ys
  | _, _, .nil => .nil
  | _, _, .cons r t => .cons (h _ _ r) (Paired.mono' h t)
theorem Paired.snoc {α β : Type} {F : α → β → Prop} {a : α} {b : β} (h : F a b) : ∀ {xs : List α} {ys : List β}, Paired F xs ys → Paired F (xs ++ [a]) (ys ++ [b])
  | _, _, .nil => .cons h .nil
  | _, _, .cons r t => .cons r (Paired.snoc h t)
theorem Tups.same {H H' : Hp} {refs : List V} {prs : List (Int × Int)} (h : Tups H refs prs) (s : Same H H') : Tups H' refs prs := Paired.mono' (fun _ _ ⟨t, e, q⟩ => ⟨t, e, s _ _ q⟩) h
theorem Tups.upd {H : Hp} {D : Addr} {o : HO} {refs : List V} {prs : List (Int × Int)} (h : Tups H refs prs) (n : ∀ xs, H D ≠ some (.tup xs)) : Tups (L2.upd H D o) refs prs :=
  Paired.mono' (fun _ _ ⟨t, e, q⟩ => ⟨t, e, by rw [upd_ne]; exact q; intro z; rw [z] at q; exact n _ q⟩) h
def pairsTo (q i j : Nat) : List (Int × Int) := ((List.range i).flatMap fun (e : Nat) => (List.range q).map fun (w : Nat) => ((e : Int), (w : Int))) ++ (List.range j).map fun (w : Nat) => ((i : Int), (w : Int))
def prs (p q : Nat) : List (Int × Int) := pairsTo q p 0
theorem pairsTo_next (q i : Nat) : pairsTo q i q = pairsTo q (i + 1) 0 := by
  unfold pairsTo
  rw [List.range_succ, List.flatMap_append]
  simp
theorem pairsTo_more (q i j : Nat) : pairsTo q i (j + 1) = pairsTo q i j ++ [((i : Int), (j : Int))] := by
  unfold pairsTo
  rw [List.range_succ (n := j), List.map_append, List.append_assoc]; rfl
theorem pairsTo_len (q i j : Nat) : (pairsTo q i j).length = i * q + j := by
  unfold pairsTo
  rw [List.length_append, List.length_map, List.length_range]
  congr 1
  induction i with
  | zero => simp
  | succ i ih => rw [List.range_succ, List.flatMap_append, List.length_append, ih]; simp [Nat.succ_mul]
section
variable {σ : L2.St} {H : Hp} {ta tb : TA} {te : TE} {Q : VK} {a b p q : Nat}
theorem lc2R (hp : p ≤ 20) (hq : q ≤ 20) (w1 : ∀ x, wipe ((wipe σ [a, b]).set a (some x)) [a, b] = wipe σ [a, b])
    (w2 : ∀ x y, wipe ((wipe ((wipe σ [a, b]).set a (some x)) [b]).set b (some y)) [b] = wipe ((wipe σ [a, b]).set a (some x)) [b])
    (hta : ∀ P : List V → Hp → Prop, P [.int p] H → ta σ H P)
    (htb : ∀ (i : Nat) H1, i < p → Same H H1 → ∀ P : List V → Hp → Prop, P [.int q] H1 → tb ((wipe σ [a, b]).set a (some (.int i))) H1 P)
    (hte : ∀ (i j : Nat) H1, i < p → j < q → Same H H1 → ∀ P : VK, (∀ t H2, Same H1 H2 → H1 t = none → H2 t = some (.tup [.int i, .int j]) → P (.ref t) H2) → te ((wipe ((wipe σ [a, b]).set a (some (.int i))) [b]).set b (some (.int j))) H1 P)
    (hd : ∀ D refs H1, Same H H1 → H D = none → H1 D = some (.lst refs) → Tups H1 refs (prs p q) → Q (.ref D) H1) :
    tLc2 (iRng1 ta) (gName a) tYes (iRng1 tb) (gName b) tYes te [a, b] [b] σ H Q := by
  refine hta _ ⟨p, rfl, by omega, by omega, fun D hD => ?_⟩
  have key : ∀ (i j : Nat) H1, (∃ refs, Same H H1 ∧ H1 D = some (.lst refs) ∧ Tups H1 refs (pairsTo q i j)) → ∃ refs, Same H H1 ∧ H1 D = some (.lst refs) ∧ Tups H1 refs (pairsTo q i j) := fun _ _ _ h => h
  refine ⟨fun i m H1 => m = p - i ∧ i ≤ p ∧ ∃ refs, Same H H1 ∧ H1 D = some (.lst refs) ∧ Tups H1 refs (pairsTo q i 0), ⟨p, by omega, by omega, [], same_new hD, upd_same, .nil⟩, ?_⟩
  rintro i m H1 ⟨rfl, hi, refs, s1, e1, t1⟩
  by_cases lt : i < p
  · refine .inr ⟨by show i < (p : Int).toNat; omega, fun H' => ∃ refs, Same H H' ∧ H' D = some (.lst refs) ∧ Tups H' refs (pairsTo q (i + 1) 0), fun H' h => ⟨p - (i + 1), by omega, rfl, lt, h⟩, ?_⟩
    rintro x H2 ⟨rfl, rfl⟩
    rw [Int.zero_add]
    refine ⟨w1 _, r_yes (r_true (c := true) rfl ?_)⟩
    refine htb i _ lt s1 _ ⟨q, rfl, by omega, by omega, ?_⟩
    refine ⟨fun j k H1 => k = q - j ∧ j ≤ q ∧ ∃ refs, Same H H1 ∧ H1 D = some (.lst refs) ∧ Tups H1 refs (pairsTo q i j), ⟨q, by omega, by omega, refs, s1, e1, t1⟩, ?_⟩
    rintro j k H3 ⟨rfl, hj, refs, s3, e3, t3⟩
    by_cases lt2 : j < q
    · refine .inr ⟨by show j < (q : Int).toNat; omega, fun H' => ∃ refs, Same H H' ∧ H' D = some (.lst refs) ∧ Tups H' refs (pairsTo q i (j + 1)), fun H' h => ⟨q - (j + 1), by omega, rfl, lt2, h⟩, ?_⟩
      rintro y H4 ⟨rfl, rfl⟩
      rw [Int.zero_add]
      refine ⟨w2 _ _, r_yes (r_true (c := true) rfl ?_)⟩
      refine hte i j _ lt lt2 s3 _ fun t H5 s5 ht h5 => ⟨refs, s5 _ _ e3, ?_, refs ++ [.ref t], ?_, upd_same, ?_⟩
      · have h1 := Paired.length t3
        have h2 := pairsTo_len q i j
        have h3 : i * q ≤ 20 * 20 := Nat.mul_le_mul (by omega) (by omega)
        exact small_lt (by omega)
      · intro c o hc
        exact kpO (s5 _ _ (s3 _ _ hc)) (ne_of_none hc hD)
      · rw [pairsTo_more]
        refine Tups.upd (Paired.snoc ⟨t, rfl, h5⟩ (t3.same s5)) fun xs z => ?_
        have := s5 _ _ e3
        rw [this] at z; cases z
    · have ej : j = q := by omega
      subst ej
      refine .inl ⟨by show (j : Int).toNat ≤ j; omega, refs, s3, e3, ?_⟩
      rw [← pairsTo_next]; exact t3
  · have ei : i = p := by omega
    subst ei
    exact .inl ⟨by show (i : Int).toNat ≤ i; omega, hd D refs _ s1 hD e1 t1⟩
end
end Jv
namespace Jv
open PySem PySem.Spec PyProof.Rows L2
theorem log_small {m : Int} (h0 : 0 < m) (h1 : m < 2 ^ 200) : m.natAbs.log2 < 9000 := Nat.lt_trans (PySem.Flt.log2_lt_of (n := m.natAbs) (k := 200) (by decide) (by omega)) (by decide)
theorem cdivS {i m : Int} (h0 : 0 < m) (h1 : m < 2 ^ 200) : CDivW i m := ⟨h0, log_small h0 h1⟩
end Jv
namespace Jv
open PySem PySem.Spec PyProof.Rows L2
section
variable {K : PySem.W.Frag} {σ : L2.St} {H : Hp} {Q : VK} {to : TE} {t : TA} {y : V}
theorem r_bm {T : String} {r : V → List V → Hp → VK → Prop} (h : to σ H fun x H1 => tyV K T x H1 ∧ t σ H1 fun xs H2 => r x xs H2 Q) : tBM K T r to t σ H Q := h
theorem r_tyL {p : Addr} {xs : List V} {P : Prop} (h : H p = some (.lst xs)) (q : P) : tyV K "list" (.ref p) H ∧ P := ⟨.inl ⟨rfl, xs, sqL_at h⟩, q⟩
theorem r_app {l : Addr} {xs : List V} (h : H l = some (.lst xs)) (hz : xs.length < 1000) (q : Q .non (upd H l (.lst (xs ++ [y])))) : rAppend (.ref l) [y] H Q := ⟨l, xs, y, rfl, rfl, h, small_lt hz, q⟩
theorem seqIx {k : Int} {n : Nat} (h0 : 0 ≤ k) (h1 : k.toNat < n) : seqIndex? k n = some k.toNat := by
  unfold seqIndex?
  simp; omega
theorem r_popAt {l : Addr} {xs : List V} {k : Int} (h : H l = some (.lst xs)) (h0 : 0 ≤ k) (h1 : k < 1000) (e : xs[k.toNat]? = some y) (q : Q y (upd H l (.lst (xs.eraseIdx k.toNat)))) : rPopAt (.ref l) [.int k] H Q :=
  ⟨l, xs, k, k.toNat, y, rfl, rfl, h, by omega, by omega, seqIx h0 (List.getElem?_eq_some_iff.mp e).1, e, q⟩
theorem erase_perm : ∀ {l : List Int} {k : Nat} {z : Int}, l[k]? = some z → (z :: l.eraseIdx k).Perm l
  | [], k, z, h => by simp at h
  | a :: r, 0, z, h => by
    have e : a = z := Option.some.inj h
    subst e; exact .refl _
  | a :: r, k + 1, z, h => (List.Perm.swap a z _).trans (List.Perm.cons a (erase_perm (l := r) (k := k) h))
theorem pop_perm {ns ms : List Int} {k : Nat} {z : Int} (e : ms[k]? = some z) : ((ns ++ [z]) ++ ms.eraseIdx k).Perm (ns ++ ms) := by
  rw [List.append_assoc]
  exact List.Perm.append_left ns (erase_perm e)
def rgI (n : Nat) : List Int := (List.range n).map fun (i : Nat) => (i : Int)
end
theorem rises_no {ns : List Int} {k b z : Int} {i : Nat} (hz : ns[i]? = some z) (hb : b = -1 ∨ b ∈ ns.take i) (h : ¬ (b < z ∧ z < k)) : ¬ lotP k ns := fun ⟨h1, _, h3⟩ => by
  obtain ⟨a0, a1⟩ := h1 z (List.mem_of_getElem? hz)
  refine h ⟨?_, by omega⟩
  rcases hb with rfl | hb
  · omega
  · obtain ⟨hi, rfl⟩ := List.getElem?_eq_some_iff.mp hz
    rw [← List.take_append_drop i ns, List.pairwise_append] at h3
    exact h3.2.2 b hb _ (by rw [List.mem_iff_getElem]; exact ⟨0, by rw [List.length_drop]; omega, by simp⟩)
end Jv
namespace Jv
open PySem PySem.Spec PyProof.Rows L2
theorem erase_map : ∀ (l : List Int) (j : Nat), (l.map V.int).eraseIdx j = (l.eraseIdx j).map V.int
  | [], _ => rfl
  | _ :: _, 0 => rfl
  | a :: r, j + 1 => congrArg (V.int a :: ·) (erase_map r j)
end Jv

/-! ### keyword calls, dict displays, things that are refused -/
namespace Jv
open PySem PySem.Spec PyProof.Rows L2
section
variable {K : PySem.W.Frag} {σ : L2.St} {H : Hp} {t tk : TA} {te tv : TE} {Q : VK} {A B : Prop}
theorem r_callN {n m : Nat} {sp : Sp} {gV : List V → List V → List V} {E : XK} (h : t σ H fun vs H1 => tk σ H1 fun zs H2 => vs.length = n ∧ zs.length = m ∧ sp (gV vs zs) H2 Q E) : tCallN n m sp gV E t tk σ H Q := h
theorem r_disp1 {k v : Int} (q : ∀ p, H p = none → Q (.ref p) (upd H p (.dK [(.inl k, .int v)]))) : tDisp [(tC (.int k), tC (.int v))] σ H Q := fun p hp =>
  ⟨upd_same, [(.inl k, .int v)], rfl, Nat.le_of_ble_eq_true rfl, by rw [upd_upd]; exact q p hp⟩
theorem r_disp2 {k v k' v' : Int} (ne : k ≠ k') (q : ∀ p, H p = none → Q (.ref p) (upd H p (.dK [(.inl k, .int v), (.inl k', .int v')]))) : tDisp [(tC (.int k), tC (.int v)), (tC (.int k'), tC (.int v'))] σ H Q := fun p hp =>
  ⟨upd_same, [(.inl k, .int v), (.inl k', .int v')], rfl, Nat.le_of_ble_eq_true rfl, by
    rw [upd_upd]
    have e : mergeK ([] : List (Key × V)) [(.inl k, .int v), (.inl k', .int v')] = [(.inl k, .int v), (.inl k', .int v')] := by
      simp [mergeK, putK, ne]
    rw [e]; exact q p hp⟩
theorem r_same {b : Bool} (q : B) : if (!decide (b = b)) = true then A else B := r_false (by rw [decide_eq_true rfl]; rfl) q
theorem r_same' {b c : Bool} (e : b = c) (q : B) : if (!decide (b = c)) = true then A else B := by subst e; exact r_same q
/-- the same, in a condition that is not yet an if -/
theorem r_dsame {P : Bool → Prop} {b : Bool} (q : P true) : P (decide (b = b)) := by rw [decide_eq_true rfl]; exact q
theorem r_and_k {te ta : TE} {c : Bool} (h : te σ H fun x H1 => ∃ c, x = .bl c ∧ if c = true then ta σ H1 Q else Q (.bl false) H1) : tAndV te ta σ H Q := h
end
/-- a thing that is neither a lot nor an order nor sides nor a couple -/
def BadTh (H : Hp) (x : V) : Prop := ThS H x ∧ ∀ xs, sqOf H x = some xs → intsV xs = none
theorem BadTh.same {H H' : Hp} {x : V} (h : BadTh H x) (s : Same H H') : BadTh H' x := ⟨h.1.same s, fun xs e => h.2 xs (by rw [← sqOf_same h.1.1 s]; exact e)⟩
theorem BadTh.lot {H : Hp} {x : V} {k : Int} (h : BadTh H x) : lotV H x k = false := by
  unfold lotV
  cases e : sqOf H x with
  | none => rfl
  | some xs => dsimp only; rw [h.2 xs e]
theorem BadTh.order {H : Hp} {x : V} {k : Int} (h : BadTh H x) : orderV H x k = false := by
  unfold orderV
  cases e : sqOf H x with
  | none => rfl
  | some xs => dsimp only; rw [h.2 xs e]
section
variable {H : Hp}
theorem bad_sc {x : V} (h : Th H x) (n : sqOf H x = none) : BadTh H x := ⟨⟨h, fun xs q => by rw [q.of] at n; cases n⟩, fun xs e => by rw [n] at e; cases e⟩
theorem bad_dK {a : Addr} {kvs : List (Key × V)} (h : H a = some (.dK kvs)) : BadTh H (.ref a) := bad_sc (.inr (.inr ⟨_, h⟩)) (by simp [sqOf, h])
theorem bad_sq {a : Addr} {xs : List V} (h : H a = some (.lst xs) ∨ H a = some (.tup xs)) (few : xs.length ≤ 60) (th : ∀ v ∈ xs, Th H v) (n : intsV xs = none) : BadTh H (.ref a) := by
  have sq : Sq H (.ref a) xs := ⟨a, rfl, h⟩
  refine ⟨⟨sq.th, fun ys q => ?_⟩, fun ys e => ?_⟩
  · have e := q.of; rw [sq.of] at e; cases e; exact ⟨few, th⟩
  · rw [sq.of] at e; cases e; exact n
theorem thS_ints {a : Addr} {ns : List Int} (h : H a = some (.lst (ns.map V.int)) ∨ H a = some (.tup (ns.map V.int))) (few : ns.length ≤ 60) : ThS H (.ref a) := by
  have sq : Sq H (.ref a) (ns.map V.int) := ⟨a, rfl, h⟩
  refine ⟨sq.th, fun ys q => ?_⟩
  have e := q.of; rw [sq.of] at e; cases e
  refine ⟨by rw [List.length_map]; exact few, fun v hv => ?_⟩
  obtain ⟨i, _, rfl⟩ := List.mem_map.mp hv
  trivial
theorem wholeV_not {x lo hi : V} (h : isI x = false) : wholeV x lo hi = false := by
  cases x with
  | int i => cases h
  | _ => rfl
theorem shaped_bad {d : PyData} (h : PyData.canLay0 d = true) (h2 : PyData.depth d = 0) : SeqAt.shaped (.list [.str "bad", d]) = true := by
  simp [SeqAt.shaped, PyData.canLay0, PyData.depth, PyData.canLayAll0, PyData.depthAll, h, h2]; decide +kernel
end
end Jv

/-! ### data: none, truths, whole numbers, texts, lists that stand, tuples that stand or are the program's own -/
namespace Jv
open PySem PySem.Spec PyProof.Rows L2
mutual
inductive Dv (K : PySem.W.Frag) (H : Hp) : V → PyData → Prop
  | non : Dv K H .non .none
  | bl (b : Bool) : Dv K H (.bl b) (.bool b)
  | int (i : Int) : Dv K H (.int i) (.int i)
  | str (x : Str) : Dv K H (.str x) (.str x)
  | lst {a : Addr} {xs : List V} {ds : List PyData} : H a = some (.lst xs) → DvAll K H xs ds → Dv K H (.ref a) (.list ds)
  | tup {a : Addr} {xs : List V} {ds : List PyData} : SqT K H a xs → DvAll K H xs ds → Dv K H (.ref a) (.tuple ds)
inductive DvAll (K : PySem.W.Frag) (H : Hp) : List V → List PyData → Prop
  | nil : DvAll K H [] []
  | cons {v : V} {vs : List V} {d : PyData} {ds : List PyData} : Dv K H v d → DvAll K H vs ds → DvAll K H (v :: vs) (d :: ds)
end
mutual
theorem Dv.same {K : PySem.W.Frag} {H H' : Hp} (s : Same H H') : ∀ {v : V} {d : PyData}, Dv K H v d → Dv K H' v d
  | _, _, .non => .non
  | _, _, .bl b => .bl b
  | _, _, .int i => .int i
  | _, _, .str x => .str x
  | _, _, .lst h q => .lst (s _ _ h) (DvAll.same s q)
  | _, _, .tup h q => .tup (Jv.Same.sqT s h) (DvAll.same s q)
theorem DvAll.same {K : PySem.W.Frag} {H H' : Hp} (s : Same H H') : ∀ {vs : List V} {ds : List PyData}, DvAll K H vs ds → DvAll K H' vs ds
  | _, _, .nil => .nil
  | _, _, .cons a b => .cons (Dv.same s a) (DvAll.same s b)
end
mutual
theorem Dv.dp {K : PySem.W.Frag} {H : Hp} : ∀ {v : V} {d : PyData}, Dv K H v d → Dp K H v d
  | _, _, .non => .non
  | _, _, .bl b => .bl b
  | _, _, .int i => .int i
  | _, _, .str x => .str x
  | _, _, .lst h q => .lst (sqL_at h) (DvAll.dp q)
  | _, _, .tup h q => .tup h (DvAll.dp q)
theorem DvAll.dp {K : PySem.W.Frag} {H : Hp} : ∀ {vs : List V} {ds : List PyData}, DvAll K H vs ds → DpAll K H vs ds
  | _, _, .nil => .nil
  | _, _, .cons a b => .cons (Dv.dp a) (DvAll.dp b)
end
section
variable {K : PySem.W.Frag} {H : Hp} {v : V} {d : PyData} {vs : List V} {ds : List PyData}
theorem DvAll.len : ∀ {vs : List V} {ds : List PyData}, DvAll K H vs ds → vs.length = ds.length
  | _, _, .nil => rfl
  | _, _, .cons _ b => congrArg (· + 1) (DvAll.len b)
theorem DvAll.snoc (h : Dv K H v d) : ∀ {vs : List V} {ds : List PyData}, DvAll K H vs ds → DvAll K H (vs ++ [v]) (ds ++ [d])
  | _, _, .nil => .cons h .nil
  | _, _, .cons a b => .cons a (DvAll.snoc h b)
theorem DvAll.at : ∀ {vs : List V} {ds : List PyData} {i : Nat} {v : V}, DvAll K H vs ds → vs[i]? = some v → ∃ d, ds[i]? = some d ∧ Dv K H v d
  | _, _, _, _, .nil, e => by simp at e
  | _, _, 0, _, .cons a _, e => by
    simp at e; subst e; exact ⟨_, rfl, a⟩
  | _, _, i + 1, _, .cons _ b, e => by
    simp at e ⊢; exact DvAll.at b e
theorem DvAll.of : ∀ {vs : List V} {ds : List PyData} {i : Nat} {d : PyData}, DvAll K H vs ds → ds[i]? = some d → ∃ v, vs[i]? = some v ∧ Dv K H v d
  | _, _, _, _, .nil, e => by simp at e
  | _, _, 0, _, .cons a _, e => by
    simp at e; subst e; exact ⟨_, rfl, a⟩
  | _, _, i + 1, _, .cons _ b, e => by
    simp at e ⊢; exact DvAll.of b e
theorem dv_ints : ∀ ns : List Int, DvAll K H (ns.map V.int) (ns.map PyData.int)
  | [] => .nil
  | a :: r => .cons (.int a) (dv_ints r)
end
/-- what sort a thing is -/
def tyD : PyData → String
  | .none => "NoneType"
  | .bool _ => "bool"
  | .int _ => "int"
  | .str _ => "str"
  | .list _ => "list"
  | .tuple _ => "tuple"
  | _ => "object"
def boolD : PyData → Bool
  | .bool _ => true
  | _ => false
def intD : PyData → Bool
  | .int _ => true
  | _ => false
def seqD : PyData → Option (List PyData)
  | .list xs => some xs
  | .tuple xs => some xs
  | _ => none
section
variable {K : PySem.W.Frag} {H : Hp} {v : V} {d : PyData} {Q : VK}
theorem SqT.tyX {a : Addr} {xs : List V} (h : SqT K H a xs) : TyX K H (.ref a) (.type "tuple") := by
  rcases h with (h | ⟨o, h⟩) | ⟨o, its, n, h, c, _⟩
  · exact .base (.tup h)
  · exact .fTuple h
  · exact .kTuple h c
theorem Dv.ty (h : Dv K H v d) : TyX K H v (.type (tyD d)) := by
  cases h with
  | non => exact .base .non
  | bl b => exact .base (.bl b)
  | int i => exact .base (.int i)
  | str x => exact .base (.str x)
  | lst h _ => exact .base (.lst h)
  | tup h _ => exact SqT.tyX h
theorem Dv.kits (h : Dv K H v d) : kitB (tyD d) "bool" = some (boolD d) ∧ kitB (tyD d) "int" = some (boolD d || intD d) ∧ kitB (tyD d) "list" = some (tyD d == "list") ∧ kitB (tyD d) "tuple" = some (tyD d == "tuple") ∧ kitB (tyD d) "str" = some (tyD d == "str") ∧ ((tyD d == "list") || (tyD d == "tuple")) = (seqD d).isSome := by
  cases h with
  | non => exact ⟨(by decide +kernel : kitB "NoneType" "bool" = some false), (by decide +kernel : kitB "NoneType" "int" = some false), (by decide +kernel : kitB "NoneType" "list" = some ("NoneType" == "list")), (by decide +kernel : kitB "NoneType" "tuple" = some ("NoneType" == "tuple")), (by decide +kernel : kitB "NoneType" "str" = some ("NoneType" == "str")), (by decide +kernel : (("NoneType" == "list") || ("NoneType" == "tuple")) = false)⟩
  | bl b => exact ⟨(by decide +kernel : kitB "bool" "bool" = some true), (by decide +kernel : kitB "bool" "int" = some true), (by decide +kernel : kitB "bool" "list" = some ("bool" == "list")), (by decide +kernel : kitB "bool" "tuple" = some ("bool" == "tuple")), (by decide +kernel : kitB "bool" "str" = some ("bool" == "str")), (by decide +kernel : (("bool" == "list") || ("bool" == "tuple")) = false)⟩
  | int i => exact ⟨(by decide +kernel : kitB "int" "bool" = some false), (by decide +kernel : kitB "int" "int" = some true), (by decide +kernel : kitB "int" "list" = some ("int" == "list")), (by decide +kernel : kitB "int" "tuple" = some ("int" == "tuple")), (by decide +kernel : kitB "int" "str" = some ("int" == "str")), (by decide +kernel : (("int" == "list") || ("int" == "tuple")) = false)⟩
  | str x => exact ⟨(by decide +kernel : kitB "str" "bool" = some false), (by decide +kernel : kitB "str" "int" = some false), (by decide +kernel : kitB "str" "list" = some ("str" == "list")), (by decide +kernel : kitB "str" "tuple" = some ("str" == "tuple")), (by decide +kernel : kitB "str" "str" = some ("str" == "str")), (by decide +kernel : (("str" == "list") || ("str" == "tuple")) = false)⟩
  | lst _ _ => exact ⟨(by decide +kernel : kitB "list" "bool" = some false), (by decide +kernel : kitB "list" "int" = some false), (by decide +kernel : kitB "list" "list" = some ("list" == "list")), (by decide +kernel : kitB "list" "tuple" = some ("list" == "tuple")), (by decide +kernel : kitB "list" "str" = some ("list" == "str")), (by decide +kernel : (("list" == "list") || ("list" == "tuple")) = true)⟩
  | tup _ _ => exact ⟨(by decide +kernel : kitB "tuple" "bool" = some false), (by decide +kernel : kitB "tuple" "int" = some false), (by decide +kernel : kitB "tuple" "list" = some ("tuple" == "list")), (by decide +kernel : kitB "tuple" "tuple" = some ("tuple" == "tuple")), (by decide +kernel : kitB "tuple" "str" = some ("tuple" == "str")), (by decide +kernel : (("tuple" == "list") || ("tuple" == "tuple")) = true)⟩
theorem d_isB (h : Dv K H v d) (q : Q (.bl (boolD d)) H) : rIsi K [v, .ty "bool"] H Q := ⟨v, _, _, _, _, rfl, .ty _, h.ty, kit_ty h.kits.1, q⟩
theorem d_isI (h : Dv K H v d) (q : Q (.bl (boolD d || intD d)) H) : rIsi K [v, .ty "int"] H Q := ⟨v, _, _, _, _, rfl, .ty _, h.ty, kit_ty h.kits.2.1, q⟩
theorem d_isT (h : Dv K H v d) (q : Q (.bl (tyD d == "tuple")) H) : rIsi K [v, .ty "tuple"] H Q := ⟨v, _, _, _, _, rfl, .ty _, h.ty, kit_ty h.kits.2.2.2.1, q⟩
theorem d_isStr (h : Dv K H v d) (q : Q (.bl (tyD d == "str")) H) : rIsi K [v, .ty "str"] H Q := ⟨v, _, _, _, _, rfl, .ty _, h.ty, kit_ty h.kits.2.2.2.2.1, q⟩
theorem d_isS {p : Addr} (hp : H p = some (.tup [.ty "list", .ty "tuple"])) (h : Dv K H v d) (q : Q (.bl (seqD d).isSome) H) : rIsiT K [v, .ref p] H Q := by
  obtain ⟨_, _, h2, h3, _, h4⟩ := h.kits
  refine ⟨v, p, _, _, _, (seqD d).isSome, rfl, hp, .cons (.ty _) (.cons (.ty _) .nil), h.ty, ?_, q⟩
  refine kitAny_cons (kit_ty h2) (fun e => ?_) fun e => by rw [← h4, e]; rfl
  refine kitAny_cons (kit_ty h3) (fun e2 => ?_) fun e2 => by rw [← h4, e2, Bool.or_true]
  rw [kitAny_nil, ← h4, e, e2]; rfl
/-- a sequence's items -/
theorem Dv.seq (h : Dv K H v d) {ds : List PyData} (e : seqD d = some ds) : ∃ a xs, v = .ref a ∧ (SqL K H a xs ∨ SqT K H a xs) ∧ DvAll K H xs ds := by
  cases h with
  | lst h q => cases e; exact ⟨_, _, rfl, .inl (sqL_at h), q⟩
  | tup h q => cases e; exact ⟨_, _, rfl, .inr h, q⟩
  | _ => cases e
end
/-- is_whole's answer, of data -/
def wholeD : PyData → V → V → Bool
  | .int i, lo, hi => loOk lo i && hiOk hi i
  | _, _, _ => false
end Jv

/-! ### methods, makings that may raise within a try; static methods; readings of objects -/
namespace Jv
open PySem PySem.Spec PyProof.Rows L2
section
variable {X : Cx} {CX : CXT} {k : Nat} {f C : Addr} {fd : FuncData} {ps : List Str} {sp : Sp} {dvs : List V} {ds : List Value} {E : L2.St → XK} {x m : Str} {p pos apos : Pos} {e o : Expr} {es : List Expr} {ta : TE} {t : TA}
theorem run_fnX {pins : List (Addr × Obj)} {σ : L2.St} {H : Hp} {s : Shared} {Q : VK} {us : List Value} {vs : List V} (F : FnOk X.prog X.w X.K X.mg X.base CX k f fd ps sp) (hr : Room k X.A) (hb : Binds X.K fd ps ds) (hd : Vals dvs ds) (hx : PassesAt CX X σ (E σ))
    (I : Inv X pins σ H s) (r : Vals vs us) (h : sp (vs ++ dvs) H Q (E σ)) : wpAny (model X.prog X.w) X.A (call (.ref f) us) (EP X pins σ Q) X.xe s := by
  have r2 : Vals (vs ++ dvs) (us ++ ds) := r.append hd
  have hl : (us ++ ds).length = ps.length := by rw [← r2.length]; exact F.len _ _ _ _ h
  refine wpAny_call (codeAny_mono (F.run X.A X.stack s H ⟨us, []⟩ (us ++ ds) (vs ++ dvs) Q (E σ) hr I.env0 (hb s us I.kIn hl) r2 h) fun r s' hq => ?_)
  cases r with
  | error e => exact hx pins H s e s' I hq
  | ok fl =>
    cases fl with
    | ret u => exact I.after hq
    | next => exact False.elim hq
    | brk => exact False.elim hq
    | cont => exact False.elim hq
def tMethX (C : Addr) (m : Str) (sp : Sp) (dvs : List V) (E : L2.St → XK) (ta : TE) (t : TA) : TE := fun σ H Q => ta σ H fun x H1 => ∃ a dx fs, x = .ref a ∧ H1 a = some (.ins C dx fs) ∧ fs.lookup m = none ∧
  t σ H1 fun vs H2 => sp (x :: (vs ++ dvs)) H2 Q (E σ)
theorem pe_methX {pl : Sem Bool} (he : PE X o ta) (c : Cls X.K C) (hm : Meth X.K C m f) (F : FnOk X.prog X.w X.K X.mg X.base CX k f fd ps sp) (hr : Room k X.A) (hb : Binds X.K fd ps ds) (hd : Vals dvs ds) (hx : ∀ σ, PassesAt CX X σ (E σ)) (ha : PA X (e :: es) t)
    (hst : starEach (e :: es) X.env = (false, eval e X.env) :: starEach es X.env := by rfl) (hpl : (backTo pos (starEach es X.env)).any (·.1) = false := by rfl)
    (ht : eval (.Call (.Attribute o m apos) (e :: es) [] pos) X.env = (do
      let ov ← eval o X.env
      standAt apos.atName
      let (f, first) ← holding [ov] (getMethod ov m pl)
      callWith pos f first (backTo pos (starEach (e :: es) X.env)) (backToKw pos (keywordEach [] X.env))) := by rfl) :
    PE X (.Call (.Attribute o m apos) (e :: es) [] pos) (tMethX C m sp dvs E ta t) := by
  refine ⟨fun pins s σ H Q I h => ?_⟩
  refine PySem.W.methodCall_KW (pl := pl) (thn (he.run pins s σ H _ I h) fun u s1 ⟨x, H1, I1, rx, a, dx, fs, ex, ea, l, q⟩ => ?_) ht
  subst ex
  obtain rfl : u = Value.ref a := rx
  refine getmeth_ok I1 ea c hm l ?_
  refine PySem.W.callWith_K (first := [.ref a]) (h₀ := X.base) I.ok.mod.kin hm.kp (thn (ha.run pos pins s1 σ H1 _ I1 q) fun us s2 ⟨vs, H2, I2, r, q2⟩ => ⟨I2.kIn, ?_⟩) hst hpl
  exact run_fnX (us := .ref a :: us) (vs := .ref a :: vs) F hr hb hd (hx σ) I2 (.cons rfl r) q2
def tMakeX (C : Addr) (sp : Sp) (dvs : List V) (E : L2.St → XK) (t : TA) : TE := fun σ H Q => t σ H fun vs H1 => ∀ x dx, H1 x = none → H1 dx = none → dx ≠ x →
  sp (.ref x :: (vs ++ dvs)) (upd (upd H1 dx (.own x)) x (.ins C dx [])) (fun v H2 => v = .non ∧ Q (.ref x) H2) (E σ)
theorem run_makeX {pins : List (Addr × Obj)} {σ : L2.St} {H : Hp} {s : Shared} {Q : VK} {us : List Value} {vs : List V} (M : Mk X.K C f) (F : FnOk X.prog X.w X.K X.mg X.base CX k f fd ps sp) (hr : Room (k + 1) X.A) (hb : Binds X.K fd ps ds) (hd : Vals dvs ds)
    (hx : PassesAt CX X σ (E σ)) (I : Inv X pins σ H s) (r : Vals vs us)
    (h : ∀ x dx, H x = none → H dx = none → dx ≠ x → sp (.ref x :: (vs ++ dvs)) (upd (upd H dx (.own x)) x (.ins C dx [])) (fun v H2 => v = .non ∧ Q (.ref x) H2) (E σ)) :
    wpAny (model X.prog X.w) X.A (call (.ref C) us) (EP X pins σ Q) X.xe s := by
  have hq := h (s.heap.objs.size + 1) s.heap.objs.size (I.hok.fresh (Nat.le_succ _)) (I.hok.fresh (Nat.le_refl _)) (Nat.ne_of_lt (Nat.lt_succ_self _))
  have I2 := Inv.made (C := C) I
  have r2 : Vals (V.ref (s.heap.objs.size + 1) :: (vs ++ dvs)) (Value.ref (s.heap.objs.size + 1) :: (us ++ ds)) := .cons rfl (r.append hd)
  have hl : (Value.ref (s.heap.objs.size + 1) :: us ++ ds).length = ps.length := by
    have e := r2.length
    rw [F.len _ _ _ _ hq] at e
    exact e.symm
  refine wpAny_call (make_map (f := f) I.kIn M.makes M.init (beq_iff_eq.mp M.fn) (codeAny_mono (F.run _ X.stack _ _ ⟨Value.ref (s.heap.objs.size + 1) :: us, []⟩ (Value.ref (s.heap.objs.size + 1) :: (us ++ ds)) _ _ (E σ) (hr.make C us [])
    (I2.env0.make C us []) (hb _ (Value.ref (s.heap.objs.size + 1) :: us) I2.kIn hl) r2 hq) fun r s' hq' => ?_))
  cases r with
  | error e => exact hx pins _ _ e s' I2 hq'
  | ok fl =>
    cases fl with
    | ret u =>
      obtain ⟨v, H', I3, rv, ev, q3⟩ := I2.after hq'
      subst ev
      exact ⟨rv, ⟨V.ref (s.heap.objs.size + 1), H', I3, rfl, q3⟩⟩
    | next => exact False.elim hq'
    | brk => exact False.elim hq'
    | cont => exact False.elim hq'
theorem pe_makeX (M : Mk X.K C f) (F : FnOk X.prog X.w X.K X.mg X.base CX k f fd ps sp) (hr : Room (k + 1) X.A) (hg : Gl X x) (hm : X.mg x = some (.ref C)) (hb : Binds X.K fd ps ds) (hd : Vals dvs ds) (hx : ∀ σ, PassesAt CX X σ (E σ))
    (ha : PA X (e :: es) t) (hdb : (x == ("__debug__" : Str)) = false := by decide) (he : starEach (e :: es) X.env = (false, eval e X.env) :: starEach es X.env := by rfl) (hpl : (backTo pos (starEach es X.env)).any (·.1) = false := by rfl) :
    PE X (.Call (.Name x p) (e :: es) [] pos) (tMakeX C sp dvs E t) := by
  refine ⟨fun pins s σ H Q I h => ?_⟩
  refine wpAny_Call_Name_kw (ld_glob I hg hm ?_ hdb)
  refine PySem.W.callWith_K (h₀ := X.base) I.ok.mod.kin M.kp (thn (ha.run pos pins s σ H _ I h) fun us s1 ⟨vs, H1, I1, r, q⟩ => ⟨I1.kIn, ?_⟩) he hpl
  exact run_makeX M F hr hb hd (hx σ) I1 r q
end
/-- C.m is a static method: its record at p, its def at g -/
structure SMet (K : PySem.W.Frag) (C : Addr) (mc : Value) (m : Str) (p g : Addr) : Prop where
  rd : PySem.W.readsIn K C mc = true
  ga : PySem.W.specialIn K (.ref C) "__getattribute__" = some (some (.builtin "type.__getattribute__"))
  at_ : PySem.W.findCls K (.ref C) mc m = some (.get (.builtin "staticmethod.__get__") (.ref p) .none (.ref C))
  rc : ∃ rest, PySem.W.recIn K p "staticmethod" = some (.ref g :: rest)
  kp : PySem.W.keepIn K (.ref g) = true
section
variable {X : Cx} {CX : CXT} {k : Nat} {g p C : Addr} {mc : Value} {fd : FuncData} {ps : List Str} {sp : Sp} {dvs : List V} {ds : List Value} {E : XK} {m : Str} {pos apos : Pos} {e o : Expr} {es : List Expr} {ta : TE} {t : TA}
def tSMeth (C : Addr) (sp : Sp) (dvs : List V) (E : XK) (ta : TE) (t : TA) : TE := fun σ H Q => ta σ H fun x H1 => x = .ref C ∧ t σ H1 fun vs H2 => sp (vs ++ dvs) H2 Q E
theorem getsm_ok {pins : List (Addr × Obj)} {σ : L2.St} {H : Hp} {s : Shared} {A : Around} {E : Value → Shared → Prop} {pl : Sem Bool} {Q : Value × List Value → Shared → Prop} (I : Inv X pins σ H s) (r : SMet X.K C mc m p g)
    (h : ∀ s', Inv X pins σ H s' → Q (.ref g, []) s') : wpAny (model X.prog X.w) A (getMethod (.ref C) m pl) Q E s := by
  obtain ⟨rest, hp⟩ := r.rc
  refine PySem.W.method_cls I.kIn r.ga (PySem.W.cls_bind I.kIn r.rd r.at_ ?_)
  exact wpAny_call (PySem.W.sm_get (s := { s with toks := s.toks + 1 }) I.kIn hp (PySem.W.handed_on rfl (h _ (I.tok _))))
theorem pe_smeth {pl : Sem Bool} (he : PE X o ta) (c : SMet X.K C mc m p g) (F : FnOk X.prog X.w X.K X.mg X.base CX k g fd ps sp) (hr : Room k X.A) (hb : Binds X.K fd ps ds) (hd : Vals dvs ds) (hx : Passes CX X E) (ha : PA X (e :: es) t)
    (hst : starEach (e :: es) X.env = (false, eval e X.env) :: starEach es X.env := by rfl) (hpl : (backTo pos (starEach es X.env)).any (·.1) = false := by rfl)
    (ht : eval (.Call (.Attribute o m apos) (e :: es) [] pos) X.env = (do
      let ov ← eval o X.env
      standAt apos.atName
      let (f, first) ← holding [ov] (getMethod ov m pl)
      callWith pos f first (backTo pos (starEach (e :: es) X.env)) (backToKw pos (keywordEach [] X.env))) := by rfl) :
    PE X (.Call (.Attribute o m apos) (e :: es) [] pos) (tSMeth C sp dvs E ta t) := by
  refine ⟨fun pins s σ H Q I h => ?_⟩
  refine PySem.W.methodCall_KW (pl := pl) (thn (he.run pins s σ H _ I h) fun u s1 ⟨x, H1, I1, rx, ex, q⟩ => ?_) ht
  subst ex
  obtain rfl : u = Value.ref C := rx
  refine getsm_ok I1 c fun s2 I2 => ?_
  refine PySem.W.callWith_K (first := []) (h₀ := X.base) I.ok.mod.kin c.kp (thn (ha.run pos pins s2 σ H1 _ I2 q) fun us s3 ⟨vs, H2, I3, rv, q2⟩ => ⟨I3.kIn, ?_⟩) hst hpl
  exact run_fn F hr hb hd hx I3 rv q2
end
end Jv

/-! ### is True, is False of any thing; faults caught by one of two names -/
namespace Jv
open PySem PySem.Spec PyProof.Rows L2
/-- a is b, b True or False -/
def rIsT : R2 := fun x y H Q => ∃ b : Bool, y = .bl b ∧ Q (.bl (decide (x = .bl b))) H
theorem op_isT {X : Cx} : OpR X (compareOp .Is) rIsT := by
  intro pins s σ H x y v u Q I rx ry h
  obtain ⟨b, rfl, q⟩ := h
  cases (show u = Value.bool b from ry)
  by_cases e : x = .bl b
  · subst e
    cases (show v = Value.bool b from rx)
    exact wpAny_is_self rfl ⟨.bl true, H, I, rfl, by simpa using q⟩
  · have e2 : decide (x = .bl b) = false := decide_eq_false e
    rw [e2] at q
    refine wpAny_is_other ?_ ?_ ⟨.bl false, H, I, rfl, q⟩
    · cases x <;> first
        | (cases rx; rfl)
        | (obtain ⟨t, rfl⟩ := rx; rfl)
    · intro z
      cases x with
      | bl c => cases (show v = Value.bool c from rx); exact e (by cases z; rfl)
      | non => cases rx; cases z
      | int i => obtain ⟨t, rfl⟩ := rx; cases z
      | str i => obtain ⟨t, rfl⟩ := rx; cases z
      | byt i => obtain ⟨t, rfl⟩ := rx; cases z
      | flt i => obtain ⟨t, rfl⟩ := rx; cases z
      | ref a => cases (show v = Value.ref a from rx); cases z
      | ty a => cases (show v = Value.type a from rx); cases z
end Jv

/-! ### sequences that stand or are the program's own; walks, comprehensions over them; data's answers -/
namespace Jv
open PySem PySem.Spec PyProof.Rows L2
def Sk (K : PySem.W.Frag) (H : Hp) (x : V) (xs : List V) : Prop := ∃ a, x = .ref a ∧ (SqL K H a xs ∨ SqT K H a xs)
section
variable {K : PySem.W.Frag} {σ : L2.St} {H H' : Hp} {te : TE} {Q : VK} {xs : List V} {ds : List PyData} {j i : Nat} {x v : V} {d : PyData}
theorem Sk.same (h : Sk K H x xs) (s : Same H H') : Sk K H' x xs := by
  obtain ⟨a, rfl, h | h⟩ := h
  · exact ⟨a, rfl, .inl (s.seq h)⟩
  · exact ⟨a, rfl, .inr (Jv.Same.sqT s h)⟩
theorem Dv.sk (h : Dv K H v d) (e : seqD d = some ds) : ∃ xs, Sk K H v xs ∧ DvAll K H xs ds := by
  obtain ⟨a, xs, e1, e2, e3⟩ := h.seq e
  exact ⟨xs, ⟨a, e1, e2⟩, e3⟩
theorem Sk.len (h : Sk K H x xs) (q : Q (.int xs.length) H) : rLenK K [x] H Q := by
  obtain ⟨a, rfl, h⟩ := h
  exact r_len h q
theorem Sk.ix (h : Sk K H x xs) {k : Int} {v : V} (e : atI xs k = some v) (q : Q v H) : rIx K x (.int k) H Q := by
  obtain ⟨a, rfl, h | h⟩ := h
  · exact .inl (r_ixL h e q)
  · exact .inr (.inl (r_ixT h e q))
/-- over a name that holds a list or a tuple -/
theorem lcK (hv : σ[i]? = some (some x)) (hx : Sk K H x xs) (f : V → V) (few : xs.length ≤ 1000)
    (hs : ∀ v H1, v ∈ xs → Same H H1 → ∀ P : VK, (∀ H2, Same H1 H2 → P (f v) H2) → te ((σ.set j none).set j (some v)) H1 P)
    (hd : ∀ D H1, Same H H1 → H D = none → H1 D = some (.lst (xs.map f)) → Q (.ref D) H1) : tLc (fun σ H R => iList K (tVar i) σ H R ∨ iTup K (tVar i) σ H R) (gName j) tYes te [j] σ H Q := by
  obtain ⟨a, rfl, h | h⟩ := hx
  · exact .inl (lcL hv h f few hs hd)
  · exact .inr (lcT hv h f few hs hd)
theorem Sk.tup (h : Sk K H x xs) (q : ∀ (t : Addr) (H' : Hp), Same H H' → SqT K H' t xs → Q (.ref t) H') : rTupOf K [x] H Q := by
  obtain ⟨a, rfl, h | h⟩ := h
  · exact ⟨a, _, rfl, .inl ⟨h, fun l hl => q l _ (same_new hl) (sqT_at upd_same)⟩⟩
  · exact ⟨a, _, rfl, .inr ⟨h, q a _ (Same.refl _) h⟩⟩
end
def few1 (d : PyData) : Prop := ∀ ds, seqD d = some ds → ds.length ≤ 100
def few2 (d : PyData) : Prop := ∀ ds, seqD d = some ds → ds.length ≤ 100 ∧ ∀ e ∈ ds, few1 e
def few3 (d : PyData) : Prop := ∀ ds, seqD d = some ds → ds.length ≤ 100 ∧ ∀ e ∈ ds, few2 e
theorem DvAll.mem {K : PySem.W.Frag} {H : Hp} : ∀ {vs : List V} {ds : List PyData} {v : V}, DvAll K H vs ds → v ∈ vs → ∃ d ∈ ds, Dv K H v d
  | _, _, _, .nil, m => by cases m
  | _, _, _, .cons a b, m => by
    rcases List.mem_cons.mp m with rfl | m
    · exact ⟨_, List.mem_cons_self, a⟩
    · obtain ⟨d, h1, h2⟩ := DvAll.mem b m
      exact ⟨d, List.mem_cons_of_mem _ h1, h2⟩
theorem Dv.whole {K : PySem.W.Frag} {H : Hp} {v lo hi : V} {d : PyData} (h : Dv K H v d) : wholeV v lo hi = wholeD d lo hi := by
  cases h <;> rfl
/-- a function of things that goes by what they are -/
theorem DvAll.all {K : PySem.W.Frag} {H : Hp} {f : V → Bool} {g : PyData → Bool} (e : ∀ v d, Dv K H v d → f v = g d) : ∀ {vs : List V} {ds : List PyData}, DvAll K H vs ds → vs.all f = ds.all g
  | _, _, .nil => rfl
  | _, _, .cons a b => by rw [List.all_cons, List.all_cons, e _ _ a, DvAll.all e b]
def sidesD (d : PyData) : Bool := match seqD d with
  | some [.int p, .int q] => decide ((1 ≤ p ∧ p ≤ 6) ∧ (1 ≤ q ∧ q ≤ 6) ∧ p * q ≤ 12)
  | _ => false
def endsD (l : Int) (d : PyData) : Bool := match seqD d with
  | some ds => decide (0 < ds.length) && ds.all fun e => wholeD e (.int (-l)) (.int l)
  | none => false
def knowsD (d : PyData) : Bool := match seqD d with
  | some ds => decide (ds.length = 2) && ds.all boolD
  | none => false
theorem boolD_iff {K : PySem.W.Frag} {H : Hp} {v : V} {d : PyData} (h : Dv K H v d) : (decide (v = .bl true) || decide (v = .bl false)) = boolD d := by
  cases h with
  | bl b => cases b <;> rfl
  | _ => rfl
theorem wholeD_int {d : PyData} {l h : Int} : wholeD d (.int l) (.int h) = true → ∃ i, d = .int i ∧ l ≤ i ∧ i ≤ h := by
  intro q
  cases d with
  | int i => simp [wholeD, loOk, hiOk] at q; exact ⟨i, rfl, q⟩
  | _ => cases q
/-- how many lines, how long -/
def linesD (d : PyData) : Option (Nat × Nat) := match seqD d with
  | none => none
  | some ds => if ds.all (fun e => (seqD e).isSome) = true then
      match ds.map (fun e => ((seqD e).getD []).length) with
      | [] => none
      | n :: ns => if ns.all (fun m => decide (m = n)) = true then some (ns.length + 1, n) else none
    else none
end Jv

/-! ### comprehensions whose results are data; the lists under way hidden -/
namespace Jv
open PySem PySem.Spec PyProof.Rows L2
def hide (N : List Addr) (H : Hp) : Hp := fun b => if b ∈ N then none else H b
theorem hide_nil {H : Hp} : hide [] H = H := by funext b; simp [hide]
theorem hide_at {N : List Addr} {H : Hp} {b : Addr} {o : HO} (n : b ∉ N) (h : H b = some o) : hide N H b = some o := by unfold hide; rw [if_neg n]; exact h
theorem hide_some {N : List Addr} {H : Hp} {b : Addr} {o : HO} (h : hide N H b = some o) : b ∉ N ∧ H b = some o := by
  unfold hide at h
  by_cases n : b ∈ N
  · rw [if_pos n] at h; cases h
  · rw [if_neg n] at h; exact ⟨n, h⟩
theorem hide_le {N : List Addr} {H : Hp} : Same (hide N H) H := fun _ _ e => (hide_some e).2
theorem hide_same {N : List Addr} {H H' : Hp} (s : Same H H') : Same (hide N H) (hide N H') := fun _ _ e => hide_at (hide_some e).1 (s _ _ (hide_some e).2)
theorem hide_more {N : List Addr} {H H' : Hp} {D : Addr} (s : Same H H') (n : H D = none) : Same (hide N H) (hide (D :: N) H') := fun b o e => by
  obtain ⟨h1, h2⟩ := hide_some e
  refine hide_at (fun m => ?_) (s _ _ h2)
  rcases List.mem_cons.mp m with rfl | m
  · rw [n] at h2; cases h2
  · exact h1 m
theorem hide_less {N : List Addr} {H : Hp} {D : Addr} : Same (hide (D :: N) H) (hide N H) := fun b o e => by
  obtain ⟨h1, h2⟩ := hide_some e
  exact hide_at (fun m => h1 (List.mem_cons_of_mem _ m)) h2
theorem hide_upd {N : List Addr} {H : Hp} {D : Addr} {o : HO} : hide (D :: N) (upd H D o) = hide (D :: N) H := by
  funext b
  unfold hide
  by_cases m : b ∈ D :: N
  · rw [if_pos m, if_pos m]
  · rw [if_neg m, if_neg m]
    exact upd_ne fun e => m (by rw [e]; exact List.mem_cons_self)
def Held (N : List Addr) (H : Hp) : Prop := ∀ b ∈ N, ∃ o, H b = some o
theorem Held.nil {H : Hp} : Held [] H := fun _ h => by cases h
theorem Held.same {N : List Addr} {H H' : Hp} (h : Held N H) (s : Same H H') : Held N H' := fun b m => let ⟨o, e⟩ := h b m; ⟨o, s _ _ e⟩
theorem Held.cons {N : List Addr} {H : Hp} {D : Addr} {o : HO} (h : Held N H) (e : H D = some o) : Held (D :: N) H := fun b m => by
  rcases List.mem_cons.mp m with rfl | m
  · exact ⟨_, e⟩
  · exact h b m
theorem Held.new {N : List Addr} {H : Hp} {t : Addr} (h : Held N H) (n : H t = none) : t ∉ N := fun m => by
  obtain ⟨o, e⟩ := h t m
  rw [n] at e; cases e
section
variable {K : PySem.W.Frag} {σ : L2.St} {H : Hp} {te : TE} {tt : TT} {Q : VK} {xs : List V} {es : List PyData} {j i n : Nat} {x : V} {N : List Addr} {J : It} {G : Hp → Prop} {Y : Nat → Hp → V → Hp → Prop} {F : Nat → V → Prop}
theorem lcD (w : Walk J n G Y) (hG : ∀ H', Same H H' → G H') (hy : ∀ i H x H', i < n → Y i H x H' → H' = H ∧ F i x) (hN : Held N H) (es : List PyData) (hl : es.length = n) (few : n ≤ 1000)
    (hs : ∀ i v e D H1, i < n → F i v → es[i]? = some e → Same H H1 → Held (D :: N) H1 → H D = none → ∀ P : VK, (∀ y H2, Same H1 H2 → Dv K (hide (D :: N) H2) y e → P y H2) → te ((σ.set j none).set j (some v)) H1 P)
    (hd : ∀ D ys H1, Same H H1 → H D = none → H1 D = some (.lst ys) → DvAll K (hide N H1) ys es → DvAll K (hide (D :: N) H1) ys es → Q (.ref D) H1) : ∀ D, H D = none → ∃ W : Nat → Nat → Hp → Prop, (∃ m, W 0 m (upd H D (.lst []))) ∧ ∀ i m H, W i m H →
      (J.stop i H ∧ Q (.ref D) H) ∨ (J.go i H ∧ ∃ Nx : Hp → Prop, (∀ H', Nx H' → ∃ m', m' < m ∧ W (i + 1) m' H') ∧ ∀ x H', J.yld i H x H' → gName j x (wipe σ [j]) H' fun σ2 H2 => wipe σ2 [j] = wipe σ [j] ∧ tYes σ2 H2 fun b H3 =>
        if b = true then te σ2 H3 fun y H4 => ∃ acc, H4 D = some (.lst acc) ∧ acc.length < sizeLine ∧ Nx (upd H4 D (.lst (acc ++ [y]))) else Nx H3) := by
  intro D hD
  refine lc_it w (fun i H1 => Same H H1 ∧ ∃ ys, H1 D = some (.lst ys) ∧ DvAll K (hide (D :: N) H1) ys (es.take i)) ⟨same_new hD, [], upd_same, .nil⟩ (fun i H1 _ h => hG H1 h.1) ?_ ?_
  · rintro i x H1 H2 hi ⟨s1, ys, e1, al⟩ hx
    obtain ⟨e0, hF⟩ := hy i _ _ _ hi hx
    subst e0
    refine ⟨wipe1, ?_⟩
    refine r_yes ?_
    refine r_true (c := true) rfl ?_
    have hie : i < es.length := by omega
    have he := List.getElem?_eq_getElem hie
    refine hs i x _ D _ hi hF he s1 ((hN.same s1).cons e1) hD _ fun y H3 s3 dy => ⟨_, s3 _ _ e1, ?_, ?_, _, upd_same, ?_⟩
    · rw [al.len, List.length_take]; exact small_lt (by omega)
    · intro b o e; exact kpO (s3 _ _ (s1 b o e)) (ne_of_none e hD)
    · rw [hide_upd, take_more he]
      exact DvAll.snoc dy (al.same (hide_same s3))
  · rintro H1 ⟨s1, ys, e1, al⟩
    rw [List.take_of_length_le (by omega)] at al
    exact hd D ys H1 s1 hD e1 (al.same hide_less) al
theorem yat {xs : List V} : ∀ (i : Nat) (H : Hp) (x : V) (H' : Hp), i < xs.length → YAt xs i H x H' → H' = H ∧ xs[i]? = some x := fun _ _ _ _ _ h => h
theorem yfn {f : Nat → V} {n : Nat} : ∀ (i : Nat) (H : Hp) (x : V) (H' : Hp), i < n → YFn f i H x H' → H' = H ∧ x = f i := fun _ _ _ _ _ h => h
/-- over a name that holds a list or a tuple; the results' data by the data's -/
theorem lcS2 (hv : σ[i]? = some (some x)) (hx : Sk K H x xs) (hN : Held N H) (es : List PyData) (hl : es.length = xs.length) (few : xs.length ≤ 1000)
    (hs : ∀ i v e D H1, i < xs.length → xs[i]? = some v → es[i]? = some e → Same H H1 → Held (D :: N) H1 → H D = none → ∀ P : VK, (∀ y H2, Same H1 H2 → Dv K (hide (D :: N) H2) y e → P y H2) → te ((σ.set j none).set j (some v)) H1 P)
    (hd : ∀ D ys H1, Same H H1 → H D = none → H1 D = some (.lst ys) → DvAll K (hide N H1) ys es → DvAll K (hide (D :: N) H1) ys es → Q (.ref D) H1) : tLc (fun σ H R => iList K (tVar i) σ H R ∨ iTup K (tVar i) σ H R) (gName j) tYes te [j] σ H Q := by
  obtain ⟨a, rfl, h | h⟩ := hx
  · exact .inl ⟨_, hv, a, rfl, ⟨xs, h⟩, lcD walk_list (fun H' s => s.seq h) yat hN es hl few hs hd⟩
  · exact .inr ⟨_, hv, a, rfl, ⟨xs, h⟩, lcD walk_tup (fun H' s => Jv.Same.sqT s h) yat hN es hl few hs hd⟩
end
/-- results that are truths -/
theorem dv_bools {K : PySem.W.Frag} {H : Hp} : ∀ {ys : List V} {bs : List Bool}, DvAll K H ys (bs.map PyData.bool) → ys = bs.map V.bl
  | [], [], _ => rfl
  | _, b :: bs, .cons (.bl _) r => by rw [dv_bools r]; rfl
theorem dv_intsV {K : PySem.W.Frag} {H : Hp} : ∀ {ys : List V} {ns : List Int}, DvAll K H ys (ns.map PyData.int) → ys = ns.map V.int
  | [], [], _ => rfl
  | _, b :: bs, .cons (.int _) r => by rw [dv_intsV r]; rfl
end Jv

/-! ### comprehensions of two walks over data -/
namespace Jv
open PySem PySem.Spec PyProof.Rows L2
def rowG (g : PyData → PyData) (r : PyData) : List PyData := ((seqD r).getD []).map g
def upTo (g : PyData → PyData) (ds : List PyData) (m n : Nat) : List PyData := (ds.take m).flatMap (rowG g) ++ (((ds[m]?.map (rowG g)).getD []).take n)
theorem upTo_more {g : PyData → PyData} {ds : List PyData} {m n : Nat} {r d : PyData} {l : List PyData} (hr : ds[m]? = some r) (hl : seqD r = some l) (hd : l[n]? = some d) : upTo g ds m (n + 1) = upTo g ds m n ++ [g d] := by
  unfold upTo
  rw [hr, List.append_assoc]
  congr 1
  show (rowG g r).take (n + 1) = (rowG g r).take n ++ [g d]
  refine take_more ?_
  unfold rowG
  rw [hl]
  show (l.map g)[n]? = _
  rw [List.getElem?_map, hd]; rfl
theorem upTo_next {g : PyData → PyData} {ds : List PyData} {m : Nat} {r : PyData} {l : List PyData} (hr : ds[m]? = some r) (hl : seqD r = some l) : upTo g ds m l.length = upTo g ds (m + 1) 0 := by
  unfold upTo
  rw [hr, take_more hr, List.flatMap_append]
  have : (rowG g r).take l.length = rowG g r := by
    unfold rowG; rw [hl]
    exact List.take_of_length_le (by show (l.map g).length ≤ _; rw [List.length_map]; exact Nat.le_refl _)
  show _ ++ (rowG g r).take l.length = _
  rw [this]
  simp
theorem upTo_end {g : PyData → PyData} {ds : List PyData} : upTo g ds ds.length 0 = ds.flatMap (rowG g) := by
  unfold upTo
  simp
theorem flat_len {f : PyData → List PyData} : ∀ {l : List PyData}, (∀ e ∈ l, (f e).length ≤ 100) → (l.flatMap f).length ≤ l.length * 100
  | [], _ => by simp
  | a :: r, h => by
    have h1 := h a List.mem_cons_self
    have h2 := flat_len (l := r) fun e m => h e (List.mem_cons_of_mem _ m)
    rw [List.flatMap_cons, List.length_append, List.length_cons, Nat.succ_mul]; omega
section
variable {K : PySem.W.Frag} {σ : L2.St} {H : Hp} {te : TE} {Q : VK} {xs : List V} {ds : List PyData} {i a b : Nat} {x : V} {N : List Addr}
theorem lc2W {J : It} {G : Hp → Prop} (w : Walk J xs.length G (YAt xs)) (hG : ∀ H', Same H H' → G H') (al : DvAll K H xs ds) (hN : Held N H) (g : PyData → PyData)
    (hq : ∀ e ∈ ds, ∃ l, seqD e = some l ∧ l.length ≤ 100) (few : ds.length ≤ 100)
    (w1 : ∀ v, wipe ((wipe σ [a, b]).set a (some v)) [a, b] = wipe σ [a, b])
    (w2 : ∀ v u, wipe ((wipe ((wipe σ [a, b]).set a (some v)) [b]).set b (some u)) [b] = wipe ((wipe σ [a, b]).set a (some v)) [b])
    (ha : ∀ v, ((wipe σ [a, b]).set a (some v))[a]? = some (some v))
    (hs : ∀ v u d D H1, Dv K H1 u d → (∃ e ∈ ds, ∃ l, seqD e = some l ∧ d ∈ l) → Same H H1 → Held (D :: N) H1 → H D = none → ∀ P : VK, (∀ y H2, Same H1 H2 → Dv K (hide (D :: N) H2) y (g d) → P y H2) → te ((wipe ((wipe σ [a, b]).set a (some v)) [b]).set b (some u)) H1 P)
    (hd : ∀ D ys H1, Same H H1 → H D = none → H1 D = some (.lst ys) → DvAll K (hide N H1) ys (ds.flatMap (rowG g)) → Q (.ref D) H1) :
    ∀ D, H D = none → ∃ W : Nat → Nat → Hp → Prop, (∃ m, W 0 m (upd H D (.lst []))) ∧ ∀ i m H, W i m H →
      (J.stop i H ∧ Q (.ref D) H) ∨ (J.go i H ∧ ∃ Nx : Hp → Prop, (∀ H', Nx H' → ∃ m', m' < m ∧ W (i + 1) m' H') ∧ ∀ x H', J.yld i H x H' → gName a x (wipe σ [a, b]) H' fun σ2 H2 => wipe σ2 [a, b] = wipe σ [a, b] ∧ tYes σ2 H2 fun c H3 =>
        if c = true then (iList K (tVar a) σ2 H3 fun J1 H4 => ∃ W1 : Nat → Nat → Hp → Prop, (∃ m, W1 0 m H4) ∧ ∀ j k H, W1 j k H →
          (J1.stop j H ∧ Nx H) ∨ (J1.go j H ∧ ∃ Nx1 : Hp → Prop, (∀ H', Nx1 H' → ∃ k', k' < k ∧ W1 (j + 1) k' H') ∧ ∀ x H', J1.yld j H x H' → gName b x (wipe σ2 [b]) H' fun σ3 H5 => wipe σ3 [b] = wipe σ2 [b] ∧ tYes σ3 H5 fun c H6 =>
            if c = true then te σ3 H6 fun y H7 => ∃ acc, H7 D = some (.lst acc) ∧ acc.length < sizeLine ∧ Nx1 (upd H7 D (.lst (acc ++ [y]))) else Nx1 H6)) ∨ (iTup K (tVar a) σ2 H3 fun J1 H4 => ∃ W1 : Nat → Nat → Hp → Prop, (∃ m, W1 0 m H4) ∧ ∀ j k H, W1 j k H →
          (J1.stop j H ∧ Nx H) ∨ (J1.go j H ∧ ∃ Nx1 : Hp → Prop, (∀ H', Nx1 H' → ∃ k', k' < k ∧ W1 (j + 1) k' H') ∧ ∀ x H', J1.yld j H x H' → gName b x (wipe σ2 [b]) H' fun σ3 H5 => wipe σ3 [b] = wipe σ2 [b] ∧ tYes σ3 H5 fun c H6 =>
            if c = true then te σ3 H6 fun y H7 => ∃ acc, H7 D = some (.lst acc) ∧ acc.length < sizeLine ∧ Nx1 (upd H7 D (.lst (acc ++ [y]))) else Nx1 H6))
        else Nx H3) := by
  intro D hD
  have hlen := al.len
  have bound : ∀ m n, (upTo g ds m n).length < 20000 := by
    intro m n
    unfold upTo
    rw [List.length_append, List.length_take]
    have row : ∀ e ∈ ds, (rowG g e).length ≤ 100 := fun e he => by
      obtain ⟨l, h1, h2⟩ := hq e he
      unfold rowG; rw [h1]; show (l.map g).length ≤ 100; rw [List.length_map]; exact h2
    have h1 := flat_len (f := rowG g) (l := ds.take m) fun e he => row e (List.mem_of_mem_take he)
    have h2 : (ds.take m).length ≤ 100 := by rw [List.length_take]; omega
    have h3 : ((ds[m]?.map (rowG g)).getD []).length ≤ 100 := by
      cases e : ds[m]? with
      | none => simp
      | some r => exact row r (List.mem_of_getElem? e)
    omega
  refine ⟨fun m k H1 => k = xs.length - m ∧ m ≤ xs.length ∧ Same H H1 ∧ ∃ ys, H1 D = some (.lst ys) ∧ DvAll K (hide (D :: N) H1) ys (upTo g ds m 0), ⟨xs.length, by omega, by omega, same_new hD, [], upd_same, by unfold upTo; simp; exact .nil⟩, ?_⟩
  rintro m k H1 ⟨rfl, hm, s1, ys, e1, dv⟩
  by_cases lt : m < xs.length
  · refine .inr ⟨w.goes m H1 lt (hG _ s1), fun H' => Same H H' ∧ ∃ ys, H' D = some (.lst ys) ∧ DvAll K (hide (D :: N) H') ys (upTo g ds (m + 1) 0), fun H' h => ⟨xs.length - (m + 1), by omega, rfl, lt, h⟩, ?_⟩
    rintro v H2 hv0
    obtain ⟨e2, hv⟩ := w.yields m H1 v H2 lt (hG _ s1) hv0
    subst e2
    obtain ⟨r, hr, dr⟩ := al.at hv
    have hrm := List.mem_of_getElem? hr
    obtain ⟨l, hl, fl⟩ := hq r hrm
    refine ⟨w1 _, r_yes (r_true (c := true) rfl ?_)⟩
    obtain ⟨us, ⟨p, ep, hp⟩, du⟩ := dr.sk hl
    subst ep
    have hul := du.len
    have core : ∀ (J1 : It) (G1 : Hp → Prop), Walk J1 us.length G1 (YAt us) → (∀ H', Same H H' → G1 H') → ∃ W1 : Nat → Nat → Hp → Prop, (∃ m, W1 0 m H2) ∧ ∀ j k H5, W1 j k H5 →
        (J1.stop j H5 ∧ (Same H H5 ∧ ∃ ys, H5 D = some (.lst ys) ∧ DvAll K (hide (D :: N) H5) ys (upTo g ds (m + 1) 0))) ∨ (J1.go j H5 ∧ ∃ Nx1 : Hp → Prop, (∀ H', Nx1 H' → ∃ k', k' < k ∧ W1 (j + 1) k' H') ∧ ∀ x H', J1.yld j H5 x H' → gName b x (wipe ((wipe σ [a, b]).set a (some (.ref p))) [b]) H' fun σ3 H5 => wipe σ3 [b] = wipe ((wipe σ [a, b]).set a (some (.ref p))) [b] ∧ tYes σ3 H5 fun c H6 =>
          if c = true then te σ3 H6 fun y H7 => ∃ acc, H7 D = some (.lst acc) ∧ acc.length < sizeLine ∧ Nx1 (upd H7 D (.lst (acc ++ [y]))) else Nx1 H6) := by
      intro J1 G1 wk hG1
      refine ⟨fun j k H5 => k = us.length - j ∧ j ≤ us.length ∧ Same H H5 ∧ ∃ ys, H5 D = some (.lst ys) ∧ DvAll K (hide (D :: N) H5) ys (upTo g ds m j), ⟨us.length, by omega, by omega, s1, ys, e1, dv⟩, ?_⟩
      rintro j k H5 ⟨rfl, hj, s5, zs, e5, dz⟩
      by_cases lt2 : j < us.length
      · refine .inr ⟨wk.goes j H5 lt2 (hG1 _ s5), fun H' => Same H H' ∧ ∃ ys, H' D = some (.lst ys) ∧ DvAll K (hide (D :: N) H') ys (upTo g ds m (j + 1)), fun H' h => ⟨us.length - (j + 1), by omega, rfl, lt2, h⟩, ?_⟩
        rintro u H6 hu0
        obtain ⟨e6, hu⟩ := wk.yields j H5 u H6 lt2 (hG1 _ s5) hu0
        subst e6
        obtain ⟨d, hd1, dd⟩ := du.at hu
        refine ⟨w2 _ _, r_yes (r_true (c := true) rfl ?_)⟩
        refine hs _ _ d D _ (dd.same s5) ⟨r, hrm, l, hl, List.mem_of_getElem? hd1⟩ s5 ((hN.same s5).cons e5) hD _ fun y H7 s7 dy => ⟨_, s7 _ _ e5, ?_, ?_, _, upd_same, ?_⟩
        · rw [dz.len]
          exact Nat.lt_of_lt_of_le (bound m j) (by decide)
        · intro c o hc; exact kpO (s7 _ _ (s5 c o hc)) (ne_of_none hc hD)
        · rw [hide_upd, upTo_more hr hl hd1]
          exact DvAll.snoc dy (dz.same (hide_same s7))
      · have ej : j = l.length := by omega
        subst ej
        refine .inl ⟨by rw [← hul]; exact wk.stops H5 (hG1 _ s5), s5, zs, e5, ?_⟩
        rw [← upTo_next hr hl]; exact dz
    rcases hp with hp | hp
    · exact .inl ⟨_, ha _, p, rfl, ⟨us, s1.seq hp⟩, core _ _ walk_list fun H' s => s.seq hp⟩
    · exact .inr ⟨_, ha _, p, rfl, ⟨us, Jv.Same.sqT s1 hp⟩, core _ _ walk_tup fun H' s => Jv.Same.sqT s hp⟩
  · have em : m = xs.length := by omega
    subst em
    refine .inl ⟨w.stops H1 (hG _ s1), hd D ys H1 s1 hD e1 ?_⟩
    rw [hlen, upTo_end] at dv
    exact dv.same hide_less
theorem lc2D (hv : σ[i]? = some (some x)) (hx : Sk K H x xs) (al : DvAll K H xs ds) (hN : Held N H) (g : PyData → PyData)
    (hq : ∀ e ∈ ds, ∃ l, seqD e = some l ∧ l.length ≤ 100) (few : ds.length ≤ 100)
    (w1 : ∀ v, wipe ((wipe σ [a, b]).set a (some v)) [a, b] = wipe σ [a, b])
    (w2 : ∀ v u, wipe ((wipe ((wipe σ [a, b]).set a (some v)) [b]).set b (some u)) [b] = wipe ((wipe σ [a, b]).set a (some v)) [b])
    (ha : ∀ v, ((wipe σ [a, b]).set a (some v))[a]? = some (some v))
    (hs : ∀ v u d D H1, Dv K H1 u d → (∃ e ∈ ds, ∃ l, seqD e = some l ∧ d ∈ l) → Same H H1 → Held (D :: N) H1 → H D = none → ∀ P : VK, (∀ y H2, Same H1 H2 → Dv K (hide (D :: N) H2) y (g d) → P y H2) → te ((wipe ((wipe σ [a, b]).set a (some v)) [b]).set b (some u)) H1 P)
    (hd : ∀ D ys H1, Same H H1 → H D = none → H1 D = some (.lst ys) → DvAll K (hide N H1) ys (ds.flatMap (rowG g)) → Q (.ref D) H1) :
    tLc2 (fun σ H R => iList K (tVar i) σ H R ∨ iTup K (tVar i) σ H R) (gName a) tYes (fun σ H R => iList K (tVar a) σ H R ∨ iTup K (tVar a) σ H R) (gName b) tYes te [a, b] [b] σ H Q := by
  obtain ⟨p, rfl, h | h⟩ := hx
  · exact .inl ⟨_, hv, p, rfl, ⟨xs, h⟩, lc2W walk_list (fun H' s => s.seq h) al hN g hq few w1 w2 ha hs hd⟩
  · exact .inr ⟨_, hv, p, rfl, ⟨xs, h⟩, lc2W walk_tup (fun H' s => Jv.Same.sqT s h) al hN g hq few w1 w2 ha hs hd⟩
end
end Jv

/-! ### data beside an object's change; readings of fields -/
namespace Jv
open PySem PySem.Spec PyProof.Rows L2
section
variable {K : PySem.W.Frag} {H : Hp} {a C dx : Addr} {fs : List (Str × V)} {o : HO}
theorem SqT.ins (ha : H a = some (.ins C dx fs)) {b : Addr} {xs : List V} (h : SqT K H b xs) : SqT K (upd H a o) b xs := by
  rcases h with (h | ⟨u, h⟩) | h
  · exact .inl (.inl (kpO h fun e => by rw [e, ha] at h; cases h))
  · exact .inl (.inr ⟨u, kpO h fun e => by rw [e, ha] at h; cases h⟩)
  · exact .inr h
mutual
theorem Dv.ins (ha : H a = some (.ins C dx fs)) : ∀ {v : V} {d : PyData}, Dv K H v d → Dv K (upd H a o) v d
  | _, _, .non => .non
  | _, _, .bl b => .bl b
  | _, _, .int i => .int i
  | _, _, .str x => .str x
  | _, _, .lst h q => .lst (kpO h fun e => by rw [e, ha] at h; cases h) (DvAll.ins ha q)
  | _, _, .tup h q => .tup (Jv.SqT.ins ha h) (DvAll.ins ha q)
theorem DvAll.ins (ha : H a = some (.ins C dx fs)) : ∀ {vs : List V} {ds : List PyData}, DvAll K H vs ds → DvAll K (upd H a o) vs ds
  | _, _, .nil => .nil
  | _, _, .cons x y => .cons (Dv.ins ha x) (DvAll.ins ha y)
end
theorem r_sfld {ta tv : TE} {f : Str} {D : Ends} {σ : L2.St} (h : tv σ H fun y H1 => ta σ H1 fun x H2 => ∃ a C dx fs, x = .ref a ∧ H2 a = some (.ins C dx fs) ∧ Cls K C ∧ NoAttr K C f ∧ fs.length < 1000 ∧
  D.nx σ (upd H2 a (.ins C dx (putF f y fs)))) : sFld K ta tv f D σ H := h
theorem r_fld {ta : TE} {f : Str} {σ : L2.St} {Q : VK} (h : ta σ H fun x H1 => ∃ a C dx fs v, x = .ref a ∧ H1 a = some (.ins C dx fs) ∧ Cls K C ∧ NoAttr K C f ∧ fs.lookup f = some v ∧ Q v H1) : tFld K ta f σ H Q := h
end
/-- a new tuple of data -/
theorem dv_new {K : PySem.W.Frag} {H : Hp} {N : List Addr} {t : Addr} {xs : List V} {ds : List PyData} (n : H t = none) (hN : Held N H) (h : DvAll K (hide N H) xs ds) : Dv K (hide N (upd H t (.tup xs))) (.ref t) (.tuple ds) :=
  .tup (sqT_at (hide_at (hN.new n) upd_same)) (h.same (hide_same (same_new n)))
theorem dv_newL {K : PySem.W.Frag} {H : Hp} {N : List Addr} {t : Addr} {xs : List V} {ds : List PyData} (n : H t = none) (hN : Held N H) (h : DvAll K (hide N H) xs ds) : Dv K (hide N (upd H t (.lst xs))) (.ref t) (.list ds) :=
  .lst (hide_at (hN.new n) upd_same) (h.same (hide_same (same_new n)))
end Jv

/-! ### comprehensions over what an expression gives; filters of numbers -/
namespace Jv
open PySem PySem.Spec PyProof.Rows L2
section
variable {K : PySem.W.Frag} {σ : L2.St} {H : Hp} {te te0 : TE} {tt : TT} {Q : VK} {xs : List V} {es : List PyData} {j i n : Nat} {x : V} {N : List Addr}
theorem lcS3 (hit : ∀ P : VK, P x H → te0 σ H P) (hx : Sk K H x xs) (hN : Held N H) (es : List PyData) (hl : es.length = xs.length) (few : xs.length ≤ 1000)
    (hs : ∀ i v e D H1, i < xs.length → xs[i]? = some v → es[i]? = some e → Same H H1 → Held (D :: N) H1 → H D = none → ∀ P : VK, (∀ y H2, Same H1 H2 → Dv K (hide (D :: N) H2) y e → P y H2) → te ((σ.set j none).set j (some v)) H1 P)
    (hd : ∀ D ys H1, Same H H1 → H D = none → H1 D = some (.lst ys) → DvAll K (hide N H1) ys es → DvAll K (hide (D :: N) H1) ys es → Q (.ref D) H1) : tLc (fun σ H R => iList K te0 σ H R ∨ iTup K te0 σ H R) (gName j) tYes te [j] σ H Q := by
  obtain ⟨a, rfl, h | h⟩ := hx
  · exact .inl (hit _ ⟨a, rfl, ⟨xs, h⟩, lcD walk_list (fun H' s => s.seq h) yat hN es hl few hs hd⟩)
  · exact .inr (hit _ ⟨a, rfl, ⟨xs, h⟩, lcD walk_tup (fun H' s => Jv.Same.sqT s h) yat hN es hl few hs hd⟩)
theorem filter_more {f : Int → Bool} {ns : List Int} {i : Nat} {z : Int} (h : ns[i]? = some z) : (ns.take (i + 1)).filter f = (ns.take i).filter f ++ if f z = true then [z] else [] := by
  rw [take_more h, List.filter_append]
  congr 1
  by_cases c : f z = true
  · simp [c]
  · simp [c]
/-- the numbers of a list or a tuple at which a test holds -/
theorem lcFW {J : It} {G : Hp → Prop} {ns : List Int} (w : Walk J (ns.map V.int).length G (YAt (ns.map V.int))) (hG : ∀ H', Same H H' → G H') (f : Int → Bool) (few : ns.length ≤ 1000)
    (ht : ∀ z H1, z ∈ ns → Same H H1 → ∀ R : Bool → Hp → Prop, (∀ H2, Same H1 H2 → R (f z) H2) → tt ((σ.set j none).set j (some (.int z))) H1 R)
    (hs : ∀ z H1, ∀ P : VK, P (.int z) H1 → te ((σ.set j none).set j (some (.int z))) H1 P)
    (hd : ∀ D H1, Same H H1 → H D = none → H1 D = some (.lst ((ns.filter f).map V.int)) → Q (.ref D) H1) : ∀ D, H D = none → ∃ W : Nat → Nat → Hp → Prop, (∃ m, W 0 m (upd H D (.lst []))) ∧ ∀ i m H, W i m H →
      (J.stop i H ∧ Q (.ref D) H) ∨ (J.go i H ∧ ∃ Nx : Hp → Prop, (∀ H', Nx H' → ∃ m', m' < m ∧ W (i + 1) m' H') ∧ ∀ x H', J.yld i H x H' → gName j x (wipe σ [j]) H' fun σ2 H2 => wipe σ2 [j] = wipe σ [j] ∧ tt σ2 H2 fun b H3 =>
        if b = true then te σ2 H3 fun y H4 => ∃ acc, H4 D = some (.lst acc) ∧ acc.length < sizeLine ∧ Nx (upd H4 D (.lst (acc ++ [y]))) else Nx H3) := by
  intro D hD
  refine lc_it w (fun i H1 => Same H H1 ∧ H1 D = some (.lst (((ns.take i).filter f).map V.int))) ⟨same_new hD, upd_same⟩ (fun i H1 _ h => hG H1 h.1) ?_ ?_
  · rintro i x H1 H2 hi ⟨s1, e1⟩ ⟨e0, hx⟩
    subst e0
    obtain ⟨z, hz, rfl⟩ := map_at hx
    refine ⟨wipe1, ht z _ (List.mem_of_getElem? hz) s1 _ fun H3 s3 => ?_⟩
    have e3 := s3 _ _ e1
    by_cases c : f z = true
    · rw [if_pos c]
      refine hs z H3 _ ⟨_, e3, ?_, fun b o e => kpO (s3 _ _ (s1 b o e)) (ne_of_none e hD), ?_⟩
      · rw [List.length_map]
        refine small_lt (Nat.lt_of_le_of_lt (List.length_filter_le _ _) ?_)
        rw [List.length_map] at hi
        rw [List.length_take]; omega
      · rw [upd_same, filter_more hz, if_pos c, List.map_append]; rfl
    · rw [if_neg c]
      refine ⟨s1.trans s3, ?_⟩
      rw [filter_more hz, if_neg c, List.append_nil]; exact e3
  · rintro H1 ⟨s1, e1⟩
    rw [List.length_map, List.take_length] at e1
    exact hd D H1 s1 hD e1
theorem lcF2 {ns : List Int} (hv : σ[i]? = some (some x)) (hx : Sk K H x (ns.map V.int)) (f : Int → Bool) (few : ns.length ≤ 1000)
    (ht : ∀ z H1, z ∈ ns → Same H H1 → ∀ R : Bool → Hp → Prop, (∀ H2, Same H1 H2 → R (f z) H2) → tt ((σ.set j none).set j (some (.int z))) H1 R)
    (hs : ∀ z H1, ∀ P : VK, P (.int z) H1 → te ((σ.set j none).set j (some (.int z))) H1 P)
    (hd : ∀ D H1, Same H H1 → H D = none → H1 D = some (.lst ((ns.filter f).map V.int)) → Q (.ref D) H1) : tLc (fun σ H R => iList K (tVar i) σ H R ∨ iTup K (tVar i) σ H R) (gName j) tt te [j] σ H Q := by
  obtain ⟨a, rfl, h | h⟩ := hx
  · exact .inl ⟨_, hv, a, rfl, ⟨_, h⟩, lcFW walk_list (fun H' s => s.seq h) f few ht hs hd⟩
  · exact .inr ⟨_, hv, a, rfl, ⟨_, h⟩, lcFW walk_tup (fun H' s => Jv.Same.sqT s h) f few ht hs hd⟩
end
end Jv

/-! ### comprehensions whose results are lists of the program's own -/
namespace Jv
open PySem PySem.Spec PyProof.Rows L2
section
variable {K : PySem.W.Frag} {σ : L2.St} {H : Hp} {te te0 : TE} {tt : TT} {Q : VK} {xs : List V} {j n : Nat} {x : V} {J : It} {G : Hp → Prop} {Y : Nat → Hp → V → Hp → Prop} {Fx : Nat → V → Prop} {F : Nat → List V}
theorem lcOwnD (w : Walk J n G Y) (hG : ∀ H', Same H H' → G H') (hy : ∀ i H x H', i < n → Y i H x H' → H' = H ∧ Fx i x) (F : Nat → List V) (few : n ≤ 1000)
    (hs : ∀ i v D H1, i < n → Fx i v → Same H H1 → H D = none → ∀ P : VK, (∀ t H2, H1 t = none → Same H1 H2 → H2 t = some (.lst (F i)) → P (.ref t) H2) → te ((σ.set j none).set j (some v)) H1 P)
    (hd : ∀ D (As : List Addr) H1, Same H H1 → H D = none → As.length = n → As.Nodup → D ∉ As → (∀ b ∈ As, H b = none) → H1 D = some (.lst (As.map V.ref)) → (∀ (k : Nat) b, As[k]? = some b → H1 b = some (.lst (F k))) → Q (.ref D) H1) : ∀ D, H D = none → ∃ W : Nat → Nat → Hp → Prop, (∃ m, W 0 m (upd H D (.lst []))) ∧ ∀ i m H, W i m H →
      (J.stop i H ∧ Q (.ref D) H) ∨ (J.go i H ∧ ∃ Nx : Hp → Prop, (∀ H', Nx H' → ∃ m', m' < m ∧ W (i + 1) m' H') ∧ ∀ x H', J.yld i H x H' → gName j x (wipe σ [j]) H' fun σ2 H2 => wipe σ2 [j] = wipe σ [j] ∧ tYes σ2 H2 fun b H3 =>
        if b = true then te σ2 H3 fun y H4 => ∃ acc, H4 D = some (.lst acc) ∧ acc.length < sizeLine ∧ Nx (upd H4 D (.lst (acc ++ [y]))) else Nx H3) := by
  intro D hD
  refine lc_it w (fun i H1 => Same H H1 ∧ ∃ As : List Addr, As.length = i ∧ As.Nodup ∧ D ∉ As ∧ (∀ b ∈ As, H b = none) ∧ H1 D = some (.lst (As.map V.ref)) ∧ ∀ (k : Nat) b, As[k]? = some b → H1 b = some (.lst (F k)))
    ⟨same_new hD, [], rfl, List.nodup_nil, List.not_mem_nil, fun b m => (by cases m), upd_same, fun k b e => (by simp at e)⟩ (fun i H1 _ h => hG H1 h.1) ?_ ?_
  · rintro i x H1 H2 hi ⟨s1, As, e0, nd, nD, hn, e1, al⟩ hx
    obtain ⟨e2, hF⟩ := hy i _ _ _ hi hx
    subst e2
    refine ⟨wipe1, ?_⟩
    refine r_yes ?_
    refine r_true (c := true) rfl ?_
    refine hs i x D _ hi hF s1 hD _ fun t H3 ht s3 et => ?_
    have htA : t ∉ As := fun m => by
      obtain ⟨k, hk, e⟩ := List.getElem_of_mem m
      have := al k t (by rw [List.getElem?_eq_getElem hk, e])
      rw [ht] at this; cases this
    have htD : t ≠ D := fun e => by rw [e, e1] at ht; cases ht
    have htH : H t = none := s1.free ht
    refine ⟨_, s3 _ _ e1, ?_, fun b o e => kpO (s3 _ _ (s1 b o e)) (ne_of_none e hD), As ++ [t], by rw [List.length_append, e0]; rfl, ?_, ?_, ?_, by rw [upd_same, List.map_append]; rfl, ?_⟩
    · rw [List.length_map, e0]; exact small_lt (by omega)
    · refine List.nodup_append.mpr ⟨nd, by simp, fun a ha b hb => ?_⟩
      rw [List.mem_singleton.mp hb]
      exact fun e => htA (e ▸ ha)
    · intro m
      rcases List.mem_append.mp m with m | m
      · exact nD m
      · exact htD (List.mem_singleton.mp m).symm
    · intro b m
      rcases List.mem_append.mp m with m | m
      · exact hn b m
      · rw [List.mem_singleton.mp m]; exact htH
    · intro k b e
      have nb : b ≠ D := fun eb => by
        rw [eb] at e
        rcases List.mem_append.mp (List.mem_of_getElem? e) with m | m
        · exact nD m
        · exact htD (List.mem_singleton.mp m).symm
      rw [upd_ne nb]
      by_cases hk : k < As.length
      · rw [List.getElem?_append_left hk] at e
        exact s3 _ _ (al k b e)
      · have h2 := (List.getElem?_eq_some_iff.mp e).1
        rw [List.length_append] at h2
        have h3 : k = As.length := by simp at h2; omega
        subst h3
        rw [List.getElem?_append_right (Nat.le_refl _), Nat.sub_self] at e
        cases e
        rw [e0]; exact et
  · rintro H1 ⟨s1, As, e0, nd, nD, hn, e1, al⟩
    exact hd D As H1 s1 hD e0 nd nD hn e1 al
/-- over what an expression gives -/
theorem lcOwn (hit : ∀ P : VK, P x H → te0 σ H P) (hx : Sk K H x xs) (F : Nat → List V) (few : xs.length ≤ 1000)
    (hs : ∀ i v D H1, i < xs.length → xs[i]? = some v → Same H H1 → H D = none → ∀ P : VK, (∀ t H2, H1 t = none → Same H1 H2 → H2 t = some (.lst (F i)) → P (.ref t) H2) → te ((σ.set j none).set j (some v)) H1 P)
    (hd : ∀ D (As : List Addr) H1, Same H H1 → H D = none → As.length = xs.length → As.Nodup → D ∉ As → (∀ b ∈ As, H b = none) → H1 D = some (.lst (As.map V.ref)) → (∀ (k : Nat) b, As[k]? = some b → H1 b = some (.lst (F k))) → Q (.ref D) H1) : tLc (fun σ H R => iList K te0 σ H R ∨ iTup K te0 σ H R) (gName j) tYes te [j] σ H Q := by
  obtain ⟨a, rfl, h | h⟩ := hx
  · exact .inl (hit _ ⟨a, rfl, ⟨xs, h⟩, lcOwnD walk_list (fun H' s => s.seq h) yat F few hs hd⟩)
  · exact .inr (hit _ ⟨a, rfl, ⟨xs, h⟩, lcOwnD walk_tup (fun H' s => Jv.Same.sqT s h) yat F few hs hd⟩)
theorem lcOwn2 {i : Nat} (hv : σ[i]? = some (some x)) (hx : Sk K H x xs) (F : Nat → List V) (few : xs.length ≤ 1000)
    (hs : ∀ i v D H1, i < xs.length → xs[i]? = some v → Same H H1 → H D = none → ∀ P : VK, (∀ t H2, H1 t = none → Same H1 H2 → H2 t = some (.lst (F i)) → P (.ref t) H2) → te ((σ.set j none).set j (some v)) H1 P)
    (hd : ∀ D (As : List Addr) H1, Same H H1 → H D = none → As.length = xs.length → As.Nodup → D ∉ As → (∀ b ∈ As, H b = none) → H1 D = some (.lst (As.map V.ref)) → (∀ (k : Nat) b, As[k]? = some b → H1 b = some (.lst (F k))) → Q (.ref D) H1) : tLc (fun σ H R => iList K (tVar i) σ H R ∨ iTup K (tVar i) σ H R) (gName j) tYes te [j] σ H Q :=
  lcOwn (fun P hP => ⟨_, hv, hP⟩) hx F few hs hd
end
/-- data, item by item -/
theorem dvAll_mk {K : PySem.W.Frag} {H : Hp} : ∀ {vs : List V} {ds : List PyData}, vs.length = ds.length → (∀ (i : Nat) v d, vs[i]? = some v → ds[i]? = some d → Dv K H v d) → DvAll K H vs ds
  | [], [], _, _ => .nil
  | v :: vs, d :: ds, hl, h => .cons (h 0 v d rfl rfl) (dvAll_mk (by simpa using hl) fun i v d h1 h2 => h (i + 1) v d h1 h2)
/-- what each item of a row of rows holds -/
theorem rows_of {K : PySem.W.Frag} {H : Hp} {vs : List V} {ds : List PyData} (h : DvAll K H vs ds) (hs : ∀ d ∈ ds, (seqD d).isSome = true) : ∃ F : Nat → List V, ∀ (i : Nat) v d, vs[i]? = some v → ds[i]? = some d → Sk K H v (F i) ∧ ∃ es, seqD d = some es ∧ DvAll K H (F i) es := by
  have h1 : ∀ i : Nat, ∃ X : List V, ∀ v d, vs[i]? = some v → ds[i]? = some d → Sk K H v X ∧ ∃ es, seqD d = some es ∧ DvAll K H X es := fun i => by
    cases e : vs[i]? with
    | none => exact ⟨[], fun v d h _ => by cases h⟩
    | some v =>
      obtain ⟨d, e2, hd⟩ := h.at e
      obtain ⟨es, e3⟩ := Option.isSome_iff_exists.mp (hs d (List.mem_of_getElem? e2))
      obtain ⟨X, k1, k2⟩ := hd.sk e3
      refine ⟨X, fun v' d' h1 h2 => ?_⟩
      cases h1
      rw [e2] at h2; cases h2
      exact ⟨k1, es, e3, k2⟩
  exact ⟨fun i => Classical.choose (h1 i), fun i => Classical.choose_spec (h1 i)⟩
end Jv

/-! ### several except clauses, some with a name -/
namespace Jv
open PySem PySem.Spec PyProof.Rows L2
/-- a suite with the exception's name at slot i -/
def sNamed (i : Nat) (ts : Addr → Value → Option Addr → TS) : Addr → Value → Option Addr → TS := fun e k d D τ H =>
  ts e k d { nx := fun ρ G => D.nx (ρ.set i none) G, rt := D.rt, bk := fun ρ G => D.bk (ρ.set i none) G, ct := fun ρ G => D.ct (ρ.set i none) G } (τ.set i (some (.ref e))) H
inductive Cls2 (X : Cx) : List ExceptHandler → List (Value × (Addr → Value → Option Addr → TS)) → Prop
  | nil : Cls2 X [] []
  | bare {nm : Str} {k : Value} {ts : Addr → Value → Option Addr → TS} {st : Stmt} {sts : List Stmt} {p1 p2 : Pos} {hl : List ExceptHandler} {wl : List (Value × (Addr → Value → Option Addr → TS))} (hk : Names X nm k)
      (su : ∀ (e : Addr) (ob : Obj) (kd : Value) (d : Option Addr) (pq : List (Addr × Obj)), Zc kd d ob → (∃ fs, ob.data = .fields fs) → PSs (X.suite e ((e, ob) :: pq)) (st :: sts) (ts e kd d)) (more : Cls2 X hl wl) :
      Cls2 X (.ExceptHandler (some (.Name nm p1)) none (st :: sts) p2 :: hl) ((k, ts) :: wl)
  | named {nm n : Str} {i : Nat} {k : Value} {ts : Addr → Value → Option Addr → TS} {st : Stmt} {sts : List Stmt} {p1 p2 : Pos} {hl : List ExceptHandler} {wl : List (Value × (Addr → Value → Option Addr → TS))} (nd : X.N.Nodup) (ix : X.N[i]? = some n) (lc : X.env.kindOf n = some .local) (hk : Names X nm k)
      (su : ∀ (e : Addr) (ob : Obj) (kd : Value) (d : Option Addr) (pq : List (Addr × Obj)), Zc kd d ob → (∃ fs, ob.data = .fields fs) → PSs (X.suite e ((e, ob) :: pq)) (st :: sts) (ts e kd d)) (more : Cls2 X hl wl) :
      Cls2 X (.ExceptHandler (some (.Name nm p1)) (some n) (st :: sts) p2 :: hl) ((k, sNamed i ts) :: wl)
section
variable {X : Cx} {body : List Stmt} {h1 : ExceptHandler} {hl : List ExceptHandler} {wl : List (Value × (Addr → Value → Option Addr → TS))} {pos : Pos} {tb : WX → TS} {Wo : WX}
theorem ps_tryMix (hst : X.stack = X.env :: X.outer) (hfr0 : X.env.frame = some X.env.locals) (tk : Takes X Wo) (hh : Cls2 X (h1 :: hl) wl)
    (hb : ∀ (W : WX) (pq : List (Addr × Obj)) (xe : Value → Shared → Prop), Takes (X.tr pq xe) W → PassesOwn (model X.prog X.w) X.A X.env xe → PSs (X.tr pq xe) body (tb W)) :
    PS X (.Try body (h1 :: hl) [] [] pos) (fun D τ H => tb (wMany X.K Wo D wl) D τ H) := by
  refine ⟨fun pins s τ H D I wish => ?_⟩
  have iok := I.ok
  have afr : X.A.frames = some (X.env :: X.outer) := by rw [iok.frames, hst]
  refine wpAny_Try_except ?_
  refine wpAny_mono ((hb (wMany X.K Wo D wl) (X.pn ++ pins) (fun u r1 => wpAny (model X.prog X.w) X.A (noteFrame u X.env) (fun _ r2 => wpAny (model X.prog X.w) X.A (setFlight u none) (fun _ r3 =>
    wpAny (model X.prog X.w) X.A (handleBy u X.env (h1 :: hl)) (SP X pins D) X.xe r3) X.xe r2) X.xe r1) (fun u t xx => ?_) PassesOwn.looking).run [] s τ H D (I.toTry _) wish) (fun f t hsp => ?_) (fun u t he => he)
  · obtain ⟨e, B, sI, pq, ρ, G, kd, d, rfl, J0, nb, up, sky0, ne, os, ag, w⟩ := xx
    have J : Inv X pins ρ G sI := J0.ofTry iok
    have sky : Sky B (X.env :: X.outer) e (Zc kd d) X.env.locals t.heap := by rw [← hst]; exact sky0
    show wpAny (model X.prog X.w) X.A (noteFrame (.ref e) X.env) _ _ _
    refine Sky.land Zc.steady afr hfr0 sky fun g3 fl3 up3 => ?_
    have J3 : Inv X pins ρ G { t with heap := g3 } := J.landed nb fl3.1 (up.trans up3) os ag
    obtain ⟨ob3, fs3, at3, z3, dt3⟩ := fl3.there
    have notIn : e ∉ frs (X.env :: X.outer) := fun m => by
      obtain ⟨_, ob, at', hn⟩ := fl3.2.2.1.mem m
      rw [at3] at at'; cases at'
      exact hn _ dt3
    have nLoc : e ≠ X.env.locals := fun z => notIn (List.mem_filterMap.mpr ⟨X.env, List.mem_cons_self, by rw [hfr0, z]⟩)
    have nFs : e ∉ X.fs := fun m => by
      obtain ⟨v, hv, q⟩ := List.mem_filterMap.mp m
      exact notIn (List.mem_filterMap.mpr ⟨v, List.mem_cons_of_mem _ hv, q⟩)
    have S3 := J3.suite at3 dt3 ne nLoc nFs
    have look : PySem.W.Looks (model X.prog X.w) g3 (typeOf (.ref e)) kd := fun A Q E r k q => wpAny_typeOf_ref (k _ _ at3) (by rw [z3.1]; exact q)
    have test : ∀ {nm : Str} {p1 : Pos} {k : Value} {Q : Value → Shared → Prop} {E : Value → Shared → Prop}, Names X nm k → Q k { t with heap := g3 } → wpAny (model X.prog X.w) (X.A.mark (some (.ref e))) (eval (.Name nm p1) X.env) Q E { t with heap := g3 } := fun {nm p1 k Q E} hk q => by
      obtain ⟨hg, hdb, hm | ⟨hm, hv, hnn⟩⟩ := hk
      · exact ld_glob (X := X.suite e ((e, ob3) :: (X.pn ++ pins))) S3 hg hm q hdb
      · exact ld_blt (X := X.suite e ((e, ob3) :: (X.pn ++ pins))) S3 hg hm hv q hnn hdb
    have all : ∀ {hl2 : List ExceptHandler} {wl2 : List (Value × (Addr → Value → Option Addr → TS))}, Cls2 X hl2 wl2 → wMany X.K Wo D wl2 kd d ρ G →
        wpAny (model X.prog X.w) X.A (handleBy (.ref e) X.env hl2) (SP X pins D) X.xe { t with heap := g3 } := by
      intro hl2 wl2 hc
      induction hc with
      | nil =>
        intro w
        refine wpAny_handleBy_nil ?_
        obtain ⟨k1, k2, k3, ob, fs, T, oT, us, he, hz, hd, hh1, hr⟩ := id fl3
        unfold PySem.passOn
        refine wpAny_bind (wpAny_field he hd hh1 ?_)
        rw [if_neg (show ¬ ((Value.ref T == Value.none) = true) from by simp)]
        have fin : wpAny (model X.prog X.w) X.A (setFlight (.ref e) X.env.frame) (fun _ r4 => wpAny (model X.prog X.w) X.A (throw (.ref e) : Sem Flow) (SP X pins D) X.xe r4) X.xe { t with heap := g3 } := by
          rw [hfr0]
          refine HandSPX.setFlight_upZ fl3 fun g4 hg4 up4 => wpAny_throw (tk _ _ ?_)
          exact ⟨e, B, sI, pins, ρ, G, kd, d, rfl, J, nb, (up.trans up3).trans up4, .inr (.inr (by rw [hst]; exact hg4)), ne, os, ag, w⟩
        first
          | exact wpAny_bind (wpAny_pure (wpAny_bind fin))
          | exact wpAny_bind fin
      | @bare nm k ts st sts p1 p2 hl3 wl3 hk su more ih =>
        intro w
        obtain ⟨b, hb1, yes, no⟩ := w
        refine wpAny_handleBy_cons (codeAny_handlers_test ?_) (by intro q; cases q)
        refine test hk ((PySem.W.exm_one (M := model X.prog X.w) (J3.kIn) look hb1).here ?_)
        cases b with
        | true =>
          refine codeAny_handlers_suite ?_
          refine HandSPX.lands_againZ fl3 fun g4 fl4 up4 => ?_
          have J4 : Inv X pins ρ G { t with heap := g4 } := J.landed nb fl4.1 ((up.trans up3).trans up4) os ag
          obtain ⟨ob4, fs4, at4, z4, dt4⟩ := fl4.there
          have S4 := J4.suite at4 dt4 ne nLoc nFs
          refine wpAny_mono ((su e ob4 kd d (X.pn ++ pins) z4 ⟨_, dt4⟩).run [] _ _ G _ S4 (yes rfl e ne)) (fun f r6 hsp => ?_) (fun _ _ z => False.elim z)
          cases f with
          | ret u =>
            obtain ⟨v6, τ6, G6, S6, rel6, q6⟩ := hsp
            exact ⟨_, _, _, S6.unsuite iok, rel6, q6⟩
          | _ =>
            obtain ⟨τ6, G6, S6, q6⟩ := hsp
            exact ⟨_, _, S6.unsuite iok, q6⟩
        | false =>
          show wpAny _ X.A (handleBy (.ref e) X.env hl3) _ _ _
          exact ih (no rfl)
      | @named nm n i k ts st sts p1 p2 hl3 wl3 nd ix lc hk su more ih =>
        intro w
        obtain ⟨b, hb1, yes, no⟩ := w
        refine wpAny_handleBy_cons (codeAny_handlers_test ?_) (by intro q; cases q)
        refine test hk ((PySem.W.exm_one (M := model X.prog X.w) (J3.kIn) look hb1).here ?_)
        cases b with
        | true =>
          refine codeAny_handlers_suite_as ?_
          refine HandSPX.lands_againZ fl3 fun g4 fl4 up4 => ?_
          have J4 : Inv X pins ρ G { t with heap := g4 } := J.landed nb fl4.1 ((up.trans up3).trans up4) os ag
          obtain ⟨ob4, fs4, at4, z4, dt4⟩ := fl4.there
          have S4 := J4.suite at4 dt4 ne nLoc nFs
          refine store_ok (X := X.suite e ((e, ob4) :: (X.pn ++ pins))) (v := .ref e) S4 nd ix (.inl lc) rfl (fun r5 S5 => ?_) (.inr lc)
          refine wpAny_mono ((su e ob4 kd d (X.pn ++ pins) z4 ⟨_, dt4⟩).run [] r5 _ G _ S5 (yes rfl e ne)) (fun f r6 hsp => ?_) (fun _ _ z => False.elim z)
          have goes : ∀ {τ6 : L2.St} {G6 : Hp} {Q : Shared → Prop}, Inv (X.suite e ((e, ob4) :: (X.pn ++ pins))) [] τ6 G6 r6 → (∀ r7, Inv X pins (τ6.set i none) G6 r7 → Q r7) →
              wpAny (model X.prog X.w) X.A (do bindName X.env n .none; unbindBehindTheSuite X.env n p2) (fun _ r7 => Q r7) X.xe r6 := fun {τ6 G6 Q} S6 hq => gone_ok (S6.unsuite iok) nd ix lc hq
          cases f with
          | ret u =>
            obtain ⟨v6, τ6, G6, S6, rel6, q6⟩ := hsp
            exact goes S6 fun r7 J7 => ⟨_, _, _, J7, rel6, q6⟩
          | _ =>
            obtain ⟨τ6, G6, S6, q6⟩ := hsp
            exact goes S6 fun r7 J7 => ⟨_, _, J7, q6⟩
        | false =>
          show wpAny _ X.A (handleBy (.ref e) X.env hl3) _ _ _
          exact ih (no rfl)
    exact all hh w
  · cases f with
    | next =>
      obtain ⟨ρ, G, J0, q⟩ := hsp
      exact wpAny_execs_nil ⟨ρ, G, J0.ofTry iok, q⟩
    | ret u =>
      obtain ⟨v, ρ, G, J0, rel, q⟩ := hsp
      exact ⟨v, ρ, G, J0.ofTry iok, rel, q⟩
    | _ =>
      obtain ⟨ρ, G, J0, q⟩ := hsp
      exact ⟨ρ, G, J0.ofTry iok, q⟩
end
end Jv

/-! ### isinstance of an exception that an except clause has caught -/
namespace Jv
open PySem PySem.Spec PyProof.Rows L2
structure XiC (K : PySem.W.Frag) (C : Addr) : Prop where
  cl : (PySem.W.clsIn K C).isSome = true
  ga : PySem.W.findIn K (.ref C) "__getattribute__" = some (some (.builtin "BaseException.__getattribute__"))
  gg : PySem.W.findIn K (.ref C) "__getattr__" = some none
  ex : PySem.W.subIn K (.ref C) (.type "BaseException") = some true
  ca : PySem.W.findIn K (.ref C) "__class__" = some (some (.builtin "object.__class__"))
  sp : PySem.W.specialIn K (.builtin "object.__class__") "__get__" = some (some (.builtin "getset_descriptor.__get__"))
  tk : PySem.W.takesIn K (.builtin "object.__class__") = some true
  mr : PySem.W.mroIn K C (.type "object") = some true
/-- isinstance(e, c): a the caught one, of an own class C, that has no fields -/
def rIsX (K : PySem.W.Frag) (a : Addr) (cls : Value) (d : Option Addr) : List V → Hp → VK → Prop := fun xs H Q => ∃ (C : Addr) (c : V) (u : Value) (b : Bool), cls = .ref C ∧ d = none ∧ XiC K C ∧ xs = [.ref a, c] ∧ ClsV c u ∧ PySem.W.kitOne K (.ref C) u = some b ∧ Q (.bl b) H
theorem call_isX {X : Cx} {a : Addr} {cls : Value} {d : Option Addr} {oe : Obj} {pn : List (Addr × Obj)} (hz : Zc cls d oe) (hf : ∃ vs, oe.data = .fields vs) : CallR (X.suite a ((a, oe) :: pn)) (.builtin "isinstance") (rIsX X.K a cls d) := by
  intro pins s σ H xs us Q I r h
  obtain ⟨C, c, u, b, rfl, rfl, T, rfl, k, e, q⟩ := h
  obtain ⟨u1, u2, rfl, r1, r2⟩ := vals2 r
  have e2 := k.eq r2
  subst e2
  obtain rfl : u1 = Value.ref a := r1
  obtain ⟨ha, _⟩ := I.pin (a, oe) (List.mem_append_left _ List.mem_cons_self)
  obtain ⟨vs, hd⟩ := hf
  have J : PySem.W.InstAt s.heap a oe C none := ⟨ha, hz.1, by unfold PySem.W.notCls; rw [hd] <;> rfl, by rw [hz.2]; trivial⟩
  exact PySem.W.kia_one (PySem.W.kitx_exc T.cl T.ga T.gg T.ex T.ca T.sp T.tk T.mr) I.kIn J e (fun z => nomatch z) fun tk => ⟨.bl b, H, I.tok tk, rfl, q⟩
theorem takes_len {X : Cx} {W : WX} (t : Takes X W) : Takes X (fun cls d σ H => σ.length = X.N.length → W cls d σ H) := fun u s' ⟨a, B, sI, pins, σ, H, cls, d, e, I, nb, up, sky, na, os, ag, w⟩ =>
  t u s' ⟨a, B, sI, pins, σ, H, cls, d, e, I, nb, up, sky, na, os, ag, w I.len⟩
/-- a call whose wish of raises is chosen at the call -/
theorem pe_exL {X : Cx} {e : Expr} {W : WX} {t : XK → TE} {n : Nat} (hn : X.N.length = n) (tk : Takes X W) (h : ∀ (E : XK) (W' : WX), Takes X W' → (∀ cls d σ' H', E cls d H' → W' cls d σ' H') → PE X e (t E)) :
    PE X e (fun σ H Q => ∃ E : XK, (∀ cls d σ' H', E cls d H' → σ'.length = n → W cls d σ' H') ∧ t E σ H Q) := by
  subst hn
  exact ⟨fun pins s σ H Q I hh => by
    obtain ⟨E, hW, q⟩ := hh
    exact (h E _ (takes_len tk) hW).run pins s σ H Q I q⟩
theorem slots3 {σ : L2.St} (h : σ.length = 3) : ∃ x y z, σ = [x, y, z] := by
  match σ, h with
  | [x, y, z], _ => exact ⟨x, y, z, rfl⟩
end Jv

/-! ### the walk through a reading -/
local macro_rules | `(tactic| walk_at "r1") => `(tactic| first
  | with_reducible refine Jv.r_seq ?_
  | with_reducible refine Jv.r_asg ?_
  | with_reducible refine Jv.r_gn ?_
  | with_reducible refine Jv.r_ret ?_
  | with_reducible refine Jv.r_retN ?_
  | with_reducible refine Jv.r_drop ?_
  | with_reducible refine Jv.r_if ?_
  | with_reducible refine Jv.r_next ?_
  | with_reducible refine Jv.r_brk ?_
  | with_reducible refine Jv.r_cont ?_
  | ((with_reducible refine' Jv.r_var ?hv ?_); (case hv => rfl))
  | with_reducible refine Jv.r_c ?_
  | with_reducible refine Jv.r_op ?_
  | with_reducible refine Jv.r_un ?_
  | with_reducible refine Jv.r_I0 ?_
  | with_reducible refine Jv.r_U ?_
  | ((with_reducible refine Jv.r_eq ?hs ?_); (case hs => rfl))
  | ((with_reducible refine Jv.r_ne ?hs ?_); (case hs => rfl))
  | with_reducible refine Jv.r_test ?_
  | with_reducible refine Jv.r_B ?_
  | with_reducible refine Jv.r_bl ?_
  | with_reducible refine Jv.r_and ?_
  | with_reducible refine Jv.r_or ?_
  | with_reducible refine Jv.r_not ?_
  | with_reducible refine Jv.r_andV ?_
  | with_reducible refine Jv.r_orV ?_
  | with_reducible refine Jv.r_notV ?_
  | with_reducible refine Jv.r_ife ?_
  | with_reducible refine Jv.r_chain ?_
  | with_reducible refine Jv.r_nil ?_
  | with_reducible refine Jv.r_cons ?_
  | with_reducible refine Jv.r_tup ?_
  | with_reducible refine Jv.r_lst ?_
  | with_reducible refine Jv.r_CB ?_
  | with_reducible refine Jv.r_call ?_
  | with_reducible refine Jv.r_callS ?_
  | with_reducible refine Jv.r_for ?_
  | with_reducible refine Jv.r_iR1 ?_
  | with_reducible refine Jv.r_iR2 ?_
  | with_reducible refine Jv.r_sub ?_
  | with_reducible refine Jv.r_int ?_)
local macro_rules | `(tactic| walk_at "r") => `(tactic| (repeat walk_at "r1"))

local macro_rules | `(tactic| walk_at "cond") => `(tactic| first
  | exact Or.inr ⟨by decide, by decide⟩
  | exact Or.inl ⟨by decide, by decide⟩
  | exact ⟨by decide, by decide⟩
  | exact ⟨by assumption, by assumption⟩
  | exact ⟨by decide, by decide, by decide⟩
  | (show (0 : Int) < _; first | decide | omega)
  | exact Jv.cdivS (by omega) (by omega)
  | exact Or.inr ⟨by omega, by omega⟩
  | exact Or.inl ⟨by omega, by omega⟩)
local macro_rules | `(tactic| walk_at "r1") => `(tactic| ((with_reducible refine Jv.r_I ?hc ?_); (case hc => walk_at "cond")))

local macro_rules | `(tactic| walk_at "ne") => `(tactic| first
  | assumption
  | exact Ne.symm (by assumption)
  | exact L2.ne_of_none (by walk_at "hp") (by assumption)
  | exact Ne.symm (L2.ne_of_none (by walk_at "hp") (by assumption)))
local macro_rules | `(tactic| walk_at "hp") => `(tactic| first
  | assumption
  | exact L2.upd_same
  | ((refine' Jv.kp ?hp1 ?hp2); (case hp2 => assumption); (case hp1 => walk_at "hp"))
  | ((refine' Jv.kpO ?hp1 ?hp2); (case hp1 => walk_at "hp"); (case hp2 => walk_at "ne")))
local macro_rules | `(tactic| walk_at "sq") => `(tactic| first
  | assumption
  | ((refine' Jv.sqT_at ?sq1); (case sq1 => walk_at "hp"))
  | ((refine' Jv.sqL_at ?sq1); (case sq1 => walk_at "hp"))
  | ((refine' Jv.sqT_new ?sq1 ?sq2); (case sq2 => assumption); (case sq1 => walk_at "sq"))
  | ((refine' Jv.sqL_new ?sq1 ?sq2); (case sq2 => assumption); (case sq1 => walk_at "sq"))
  | ((refine' L2.Same.seq ?sq1 ?sq2); (case sq1 => assumption); (case sq2 => assumption))
  | ((refine' Jv.Same.sqT ?sq1 ?sq2); (case sq1 => assumption); (case sq2 => assumption)))
local macro_rules | `(tactic| walk_at "r1") => `(tactic| first
  | ((with_reducible refine' Jv.r_gtup ?hq ?hl ?_); (case hq => walk_at "sq"); (case hl => rfl))
  | with_reducible refine Jv.r_gcons ?_
  | with_reducible refine Jv.r_gnil ?_
  | with_reducible refine Jv.r_iEn ?_
  | with_reducible refine Jv.r_iL ?_
  | with_reducible refine Jv.r_iT ?_
  | with_reducible refine Jv.r_yes ?_
  | with_reducible refine Jv.r_ift ?_
  | with_reducible refine Jv.r_iff ?_
  | ((with_reducible refine' Jv.r_new ?hn ?_); (case hn => exact Nat.le_of_ble_eq_true rfl))
  | ((with_reducible refine' Jv.r_wipe ?he ?_); (case he => rfl)))
local macro_rules | `(tactic| walk_at "len") => `(tactic| first
  | exact Or.inl (by walk_at "sq")
  | exact Or.inr (by walk_at "sq"))
local macro_rules | `(tactic| walk_at "r1") => `(tactic| first
  | ((with_reducible refine' Jv.r_ixL ?hs ?he ?_); (case hs => walk_at "sq"); (case he => rfl))
  | ((with_reducible refine' Jv.r_ixT ?hs ?he ?_); (case hs => walk_at "sq"); (case he => rfl))
  | ((with_reducible refine' Jv.r_setL ?hs ?he ?_); (case hs => walk_at "hp"); (case he => rfl))
  | ((with_reducible refine' Jv.r_len ?hs ?_); (case hs => walk_at "len")))
local macro_rules | `(tactic| walk_at "th") => `(tactic| first
  | assumption
  | exact Jv.Th.same (by assumption) (by assumption)
  | exact Jv.Th.same (by assumption) (Jv.same_new (by assumption))
  | exact trivial)
local macro_rules | `(tactic| walk_at "r1") => `(tactic| first
  | ((with_reducible refine' Jv.r_isB ?hx ?_); (case hx => walk_at "th"))
  | ((with_reducible refine' Jv.r_isI ?hx ?_); (case hx => walk_at "th"))
  | ((with_reducible refine' Jv.r_isS ?hp ?hx ?_); (case hp => walk_at "hp"); (case hx => walk_at "th"))
  | ((with_reducible refine' Jv.r_false ?he ?_); (case he => rfl))
  | ((with_reducible refine' Jv.r_true ?he ?_); (case he => rfl))
  | with_reducible refine Jv.r_rfl ?_)
local macro_rules | `(tactic| walk_at "r2") => `(tactic| first
  | walk_at "r1"
  | ((with_reducible refine' Jv.r_dec1 ?hd ?_); (case hd => omega))
  | ((with_reducible refine' Jv.r_dec0 ?hd ?_); (case hd => omega))
  | with_reducible refine Jv.r_decI (fun _ => ?_) (fun _ => ?_)
  | with_reducible refine Jv.r_ndecI (fun _ => ?_) (fun _ => ?_)
  | with_reducible refine Jv.r_dec (fun _ => ?_) (fun _ => ?_)
  | with_reducible refine Jv.r_ndec (fun _ => ?_) (fun _ => ?_))
local macro_rules | `(tactic| walk_at "rr") => `(tactic| (repeat' walk_at "r2"))
local macro_rules | `(tactic| walk_at "r1") => `(tactic| first
  | with_reducible refine Jv.r_min ?_
  | with_reducible refine Jv.r_max ?_
  | with_reducible refine Jv.r_absN ?_
  | with_reducible refine Jv.r_intN ?_)
local macro_rules | `(tactic| walk_at "r1") => `(tactic| first
  | with_reducible refine Jv.r_bm ?_
  | ((with_reducible refine' Jv.r_tyL ?hp ?_); (case hp => walk_at "hp")))

local macro_rules | `(tactic| walk_at "r1") => `(tactic| first
  | with_reducible refine Jv.r_callN ?_
  | with_reducible refine Jv.r_disp1 ?_
  | with_reducible refine Jv.r_same ?_)

local macro_rules | `(tactic| walk_at "dv") => `(tactic| first
  | assumption
  | exact Jv.Dv.same (by assumption) (by assumption)
  | exact Jv.Dv.same (Jv.same_new (by assumption)) (by assumption)
  | exact Jv.Dv.int _
  | exact Jv.Dv.non
  | exact Jv.Dv.bl _)
local macro_rules | `(tactic| walk_at "r1") => `(tactic| first
  | ((with_reducible refine' Jv.d_isB ?hx ?_); (case hx => walk_at "dv"))
  | ((with_reducible refine' Jv.d_isI ?hx ?_); (case hx => walk_at "dv"))
  | ((with_reducible refine' Jv.d_isS ?hp ?hx ?_); (case hp => walk_at "hp"); (case hx => walk_at "dv")))

namespace K34
open PySem PySem.Spec PyProof.Rows L2
def topS (i : Nat) : Stmt := PySem.Challenge.pw_risingcalls_k34_told_counts_and_least_la.main.body.getD i (.Pass ⟨0, 0, 0, 0⟩)
abbrev s_is_whole : Stmt := topS 6
abbrev s_check_ladder : Stmt := topS 7
abbrev s_told_count : Stmt := topS 10
abbrev s_asked_count : Stmt := topS 11
abbrev s_least_told : Stmt := topS 12
abbrev s_Lmix : Stmt := topS 14
abbrev s_Lhand : Stmt := topS 15
abbrev s_Ldraw : Stmt := topS 16
abbrev s_Lis_number : Stmt := topS 17
abbrev s_Lodd_ladder : Stmt := topS 18
abbrev s_Lodd_kinds : Stmt := topS 19
abbrev s_Lrow_of_counts : Stmt := topS 20
abbrev s_Lfirst_enough : Stmt := topS 21
abbrev s_Lrefused : Stmt := topS 22
abbrev s_law : Stmt := topS 23
theorem sc_is_whole : FnScope ["thing", "low", "high"] ["thing", "low", "high"] (defScope s_is_whole) := ⟨rfl, rfl, rfl, by decide +kernel, rfl, by decide +kernel, by decide +kernel⟩
theorem sc_check_ladder : FnScope ["ladder", "most"] ["ladder", "most"] (defScope s_check_ladder) := ⟨rfl, rfl, rfl, by decide +kernel, rfl, by decide +kernel, by decide +kernel⟩
theorem sc_told_count : FnScope ["ladder", "count", "later", "_"] ["ladder"] (defScope s_told_count) := ⟨rfl, rfl, rfl, by decide +kernel, rfl, by decide +kernel, by decide +kernel⟩
theorem sc_asked_count : FnScope ["ladder"] ["ladder"] (defScope s_asked_count) := ⟨rfl, rfl, rfl, by decide +kernel, rfl, by decide +kernel, by decide +kernel⟩
theorem sc_least_told : FnScope ["kinds", "ladder"] ["kinds"] (defScope s_least_told) := ⟨rfl, rfl, rfl, by decide +kernel, rfl, by decide +kernel, by decide +kernel⟩
theorem sc_Lmix : FnScope ["_law_number", "_law_turn", "_law_one", "_law_two"] ["_law_number", "_law_turn"] (defScope s_Lmix) := ⟨rfl, rfl, rfl, by decide +kernel, rfl, by decide +kernel, by decide +kernel⟩
theorem sc_Lhand : FnScope ["_law_script", "_law_total", "_law_k", "_law_cell"] ["_law_script"] (defScope s_Lhand) := ⟨rfl, rfl, rfl, by decide +kernel, rfl, by decide +kernel, by decide +kernel⟩
theorem sc_Ldraw : FnScope ["_law_hand_here", "_law_many", "_law_cell", "_law_rest"] ["_law_hand_here", "_law_many"] (defScope s_Ldraw) := ⟨rfl, rfl, rfl, by decide +kernel, rfl, by decide +kernel, by decide +kernel⟩
theorem sc_Lis_number : FnScope ["_law_thing"] ["_law_thing"] (defScope s_Lis_number) := ⟨rfl, rfl, rfl, by decide +kernel, rfl, by decide +kernel, by decide +kernel⟩
theorem sc_Lodd_ladder : FnScope ["_law_hand_here", "_law_most", "_law_odd"] ["_law_hand_here", "_law_most"] (defScope s_Lodd_ladder) := ⟨rfl, rfl, rfl, by decide +kernel, rfl, by decide +kernel, by decide +kernel⟩
theorem sc_Lodd_kinds : FnScope ["_law_hand_here", "_law_most", "_law_odd"] ["_law_hand_here", "_law_most"] (defScope s_Lodd_kinds) := ⟨rfl, rfl, rfl, by decide +kernel, rfl, by decide +kernel, by decide +kernel⟩
theorem sc_Lrow_of_counts : FnScope ["_law_found", "_law_turn"] [] (defScope s_Lrow_of_counts) := ⟨rfl, rfl, rfl, by decide +kernel, rfl, by decide +kernel, by decide +kernel⟩
theorem sc_Lfirst_enough : FnScope ["_law_row", "_law_kinds", "_law_ladder"] ["_law_row", "_law_kinds"] (defScope s_Lfirst_enough) := ⟨rfl, rfl, rfl, by decide +kernel, rfl, by decide +kernel, by decide +kernel⟩
theorem sc_Lrefused : FnScope ["_law_call", "_law_found", "e"] ["_law_call"] (defScope s_Lrefused) := ⟨rfl, rfl, rfl, by decide +kernel, rfl, by decide +kernel, by decide +kernel⟩
theorem sc_law : FnScope ["_law_script", "_law_hand_here", "_law_row", "_law_turn", "_law_ladder", "_law_told", "_law_asked", "_law_kinds", "_law_least", "_law_odd", "_law_wrong"] ["_law_script"] (defScope s_law) := ⟨rfl, rfl, rfl, by decide +kernel, rfl, by decide +kernel, by decide +kernel⟩
structure Tx where
  f_is_whole : Addr
  d_is_whole : FuncData
  f_check_ladder : Addr
  d_check_ladder : FuncData
  f_told_count : Addr
  d_told_count : FuncData
  f_asked_count : Addr
  d_asked_count : FuncData
  f_least_told : Addr
  d_least_told : FuncData
  f_Lmix : Addr
  d_Lmix : FuncData
  f_Lhand : Addr
  d_Lhand : FuncData
  f_Ldraw : Addr
  d_Ldraw : FuncData
  f_Lis_number : Addr
  d_Lis_number : FuncData
  f_Lodd_ladder : Addr
  d_Lodd_ladder : FuncData
  f_Lodd_kinds : Addr
  d_Lodd_kinds : FuncData
  f_Lrow_of_counts : Addr
  d_Lrow_of_counts : FuncData
  f_Lfirst_enough : Addr
  d_Lfirst_enough : FuncData
  f_Lrefused : Addr
  d_Lrefused : FuncData
  f_law : Addr
  d_law : FuncData
  C_CallError : Addr
  C_BadLadder : Addr
  C_BadKinds : Addr
  t_LADDER_MOST : Tok
  t_COUNT_LADDER_MOST : Tok
  e1_is_whole : List Value
  e2_is_whole : List Value
  e1_check_ladder : List Value
structure Ok (K : PySem.W.Frag) (mg : Str → Option Value) (T : Tx) : Prop where
  F_is_whole : FunD K "is_whole" "is_whole" (defArgs s_is_whole) (defBody s_is_whole) (defScope s_is_whole) [.non, .non] [] T.f_is_whole T.d_is_whole
  m_is_whole : mg "is_whole" = some (.ref T.f_is_whole)
  b_is_whole : Binds K T.d_is_whole ["thing", "low", "high"] []
  b1_is_whole : Vals [.non] T.e1_is_whole ∧ Binds K T.d_is_whole ["thing", "low", "high"] T.e1_is_whole
  b2_is_whole : Vals [.non, .non] T.e2_is_whole ∧ Binds K T.d_is_whole ["thing", "low", "high"] T.e2_is_whole
  F_check_ladder : FunD K "check_ladder" "check_ladder" (defArgs s_check_ladder) (defBody s_check_ladder) (defScope s_check_ladder) [(.int 6)] [] T.f_check_ladder T.d_check_ladder
  m_check_ladder : mg "check_ladder" = some (.ref T.f_check_ladder)
  b_check_ladder : Binds K T.d_check_ladder ["ladder", "most"] []
  b1_check_ladder : Vals [(.int 6)] T.e1_check_ladder ∧ Binds K T.d_check_ladder ["ladder", "most"] T.e1_check_ladder
  F_told_count : Fun K "told_count" "told_count" s_told_count T.f_told_count T.d_told_count
  m_told_count : mg "told_count" = some (.ref T.f_told_count)
  b_told_count : Binds K T.d_told_count ["ladder"] []
  F_asked_count : Fun K "asked_count" "asked_count" s_asked_count T.f_asked_count T.d_asked_count
  m_asked_count : mg "asked_count" = some (.ref T.f_asked_count)
  b_asked_count : Binds K T.d_asked_count ["ladder"] []
  F_least_told : Fun K "least_told" "least_told" s_least_told T.f_least_told T.d_least_told
  m_least_told : mg "least_told" = some (.ref T.f_least_told)
  b_least_told : Binds K T.d_least_told ["kinds"] []
  F_Lmix : Fun K "_law_mix" "_law_mix" s_Lmix T.f_Lmix T.d_Lmix
  m_Lmix : mg "_law_mix" = some (.ref T.f_Lmix)
  b_Lmix : Binds K T.d_Lmix ["_law_number", "_law_turn"] []
  F_Lhand : Fun K "_law_hand" "_law_hand" s_Lhand T.f_Lhand T.d_Lhand
  m_Lhand : mg "_law_hand" = some (.ref T.f_Lhand)
  b_Lhand : Binds K T.d_Lhand ["_law_script"] []
  F_Ldraw : Fun K "_law_draw" "_law_draw" s_Ldraw T.f_Ldraw T.d_Ldraw
  m_Ldraw : mg "_law_draw" = some (.ref T.f_Ldraw)
  b_Ldraw : Binds K T.d_Ldraw ["_law_hand_here", "_law_many"] []
  F_Lis_number : Fun K "_law_is_number" "_law_is_number" s_Lis_number T.f_Lis_number T.d_Lis_number
  m_Lis_number : mg "_law_is_number" = some (.ref T.f_Lis_number)
  b_Lis_number : Binds K T.d_Lis_number ["_law_thing"] []
  F_Lodd_ladder : Fun K "_law_odd_ladder" "_law_odd_ladder" s_Lodd_ladder T.f_Lodd_ladder T.d_Lodd_ladder
  m_Lodd_ladder : mg "_law_odd_ladder" = some (.ref T.f_Lodd_ladder)
  b_Lodd_ladder : Binds K T.d_Lodd_ladder ["_law_hand_here", "_law_most"] []
  F_Lodd_kinds : Fun K "_law_odd_kinds" "_law_odd_kinds" s_Lodd_kinds T.f_Lodd_kinds T.d_Lodd_kinds
  m_Lodd_kinds : mg "_law_odd_kinds" = some (.ref T.f_Lodd_kinds)
  b_Lodd_kinds : Binds K T.d_Lodd_kinds ["_law_hand_here", "_law_most"] []
  F_Lrow_of_counts : Fun K "_law_row_of_counts" "_law_row_of_counts" s_Lrow_of_counts T.f_Lrow_of_counts T.d_Lrow_of_counts
  m_Lrow_of_counts : mg "_law_row_of_counts" = some (.ref T.f_Lrow_of_counts)
  b_Lrow_of_counts : Binds K T.d_Lrow_of_counts [] []
  F_Lfirst_enough : Fun K "_law_first_enough" "_law_first_enough" s_Lfirst_enough T.f_Lfirst_enough T.d_Lfirst_enough
  m_Lfirst_enough : mg "_law_first_enough" = some (.ref T.f_Lfirst_enough)
  b_Lfirst_enough : Binds K T.d_Lfirst_enough ["_law_row", "_law_kinds"] []
  F_Lrefused : Fun K "_law_refused" "_law_refused" s_Lrefused T.f_Lrefused T.d_Lrefused
  m_Lrefused : mg "_law_refused" = some (.ref T.f_Lrefused)
  b_Lrefused : Binds K T.d_Lrefused ["_law_call"] []
  F_law : Fun K "law" "law" s_law T.f_law T.d_law
  m_law : mg "law" = some (.ref T.f_law)
  b_law : Binds K T.d_law ["_law_script"] []
  m_CallError : mg "CallError" = some (.ref T.C_CallError)
  e_CallError : Jv.ExcP K T.C_CallError
  m_BadLadder : mg "BadLadder" = some (.ref T.C_BadLadder)
  e_BadLadder : Jv.ExcP K T.C_BadLadder
  m_BadKinds : mg "BadKinds" = some (.ref T.C_BadKinds)
  e_BadKinds : Jv.ExcP K T.C_BadKinds
  z_ValueError : mg "ValueError" = none
  z_abs : mg "abs" = none
  z_bool : mg "bool" = none
  z_enumerate : mg "enumerate" = none
  z_int : mg "int" = none
  z_isinstance : mg "isinstance" = none
  z_len : mg "len" = none
  z_min : mg "min" = none
  z_range : mg "range" = none
  c_LADDER_MOST : mg "LADDER_MOST" = some (.int (6) T.t_LADDER_MOST)
  c_COUNT_LADDER_MOST : mg "COUNT_LADDER_MOST" = some (.int (200) T.t_COUNT_LADDER_MOST)
  u_BadKinds_BadLadder : PySem.W.subIn K (.ref T.C_BadKinds) (.ref T.C_BadLadder) = some false
end K34

namespace K34
open PySem PySem.Spec PyProof.Rows L2
/-! ### the law's draws: any number below the bound may come -/
def sp_Lmix : Sp := fun vs H Q _ => ∃ n t : Int, vs = [.int n, .int t] ∧ (0 ≤ n ∧ n < 2147483648 ∧ 0 ≤ t ∧ t ≤ 1000) ∧ ∀ r : Int, 0 ≤ r → r < 134217728 → Q (.int r) H
theorem mix_end (z : Int) : 0 ≤ z % 2147483399 / 16 ∧ z % 2147483399 / 16 < 134217728 := by omega
section
variable {P : Program} {w : World} {K : PySem.W.Frag} {mg : Str → Option Value} {base : Heap}
theorem ok_Lmix (T : Tx) (O : Ok K mg T) : FnOk P w K mg base CX0 1 T.f_Lmix T.d_Lmix ["_law_number", "_law_turn"] sp_Lmix := by
  refine O.F_Lmix.ok sc_Lmix (fun vs H Q E h => by obtain ⟨n, t, rfl, _⟩ := h; rfl) (fun cdv A outer s H vs Q E hr h => ?_)
  obtain ⟨n, t, rfl, ⟨h1, h2, h3, h4⟩, q⟩ := h
  refine ⟨_, (pss_cons (ps_set (i := 2) sc_Lmix.nd rfl (Or.inl rfl) (pe_op op_mod (pe_callTy (r := Jv.rInt) Jv.cr_int (by rfl) O.z_int (by decide +kernel) (pa_cons (pe_op op_add (pe_op op_add (pe_op op_mul (pv 0) pe_int) (pe_op op_mul (pv 1) pe_int)) pe_int) pa_nil)) pe_int))
  (pss_cons (ps_set (i := 3) sc_Lmix.nd rfl (Or.inl rfl) (pe_op op_mod (pe_callTy (r := Jv.rInt) Jv.cr_int (by rfl) O.z_int (by decide +kernel) (pa_cons (pe_op op_add (pe_op op_add (pe_op op_mul (pv 2) pe_int) (pe_op op_mul (pv 1) pe_int)) (pe_op op_fdivW (pv 2) pe_int)) pa_nil)) pe_int))
  (pss_one (ps_ret (pe_op op_fdivW (pe_op op_mod (pe_callTy (r := Jv.rInt) Jv.cr_int (by rfl) O.z_int (by decide +kernel) (pa_cons (pe_op op_add (pe_op op_add (pe_op op_mul (pv 2) (pv 3)) (pe_op op_fdivW (pv 3) pe_int)) (pv 1)) pa_nil)) pe_int) pe_int))))), ?_⟩
  walk_at "r"
  exact q _ (mix_end _).1 (mix_end _).2
end
end K34

namespace Jv
open PySem PySem.Spec PyProof.Rows L2
/-! ### the hand: numbers still to be used, a place, a rest, a total -/
structure HandAt (H : Hp) (p l : Addr) (ns : List Int) (k c t : Int) : Prop where
  hp : H p = some (.lst [.ref l, .int k, .int c, .int t])
  hl : H l = some (.lst (ns.map V.int))
  nn : ∀ n ∈ ns, 0 ≤ n
  few : ns.length ≤ 63
  bd : 0 ≤ k ∧ k ≤ ns.length ∧ 0 ≤ c ∧ 0 ≤ t ∧ t < 2147483629
def Hand (H : Hp) (p l : Addr) : Prop := ∃ ns k c t, HandAt H p l ns k c t
theorem HandAt.ne {H : Hp} {p l : Addr} {ns : List Int} {k c t : Int} (h : HandAt H p l ns k c t) : l ≠ p := fun e => by
  have q := h.hp
  rw [← e, h.hl] at q
  have q2 := HO.lst.inj (Option.some.inj q)
  cases ns with
  | nil => cases q2
  | cons a r => cases q2
/-- all but what stands at p is as it was -/
def Kp (p : Addr) (H H' : Hp) : Prop := ∀ b o, b ≠ p → H b = some o → H' b = some o
theorem Kp.refl {p : Addr} {H : Hp} : Kp p H H := fun _ _ _ e => e
theorem Kp.trans {p : Addr} {H H1 H2 : Hp} (a : Kp p H H1) (b : Kp p H1 H2) : Kp p H H2 := fun c o n e => b c o n (a c o n e)
theorem Kp.same {p : Addr} {H H' : Hp} (a : Same H H') : Kp p H H' := fun c o _ e => a c o e
theorem Kp.upd {p : Addr} {H : Hp} {o : HO} : Kp p H (upd H p o) := fun c u n e => by rw [upd_ne n]; exact e
theorem Kp.new {p q : Addr} {H : Hp} {o : HO} (n : H q = none) : Kp p H (L2.upd H q o) := Kp.same (same_new n)
theorem Hand.same {H H' : Hp} {p l : Addr} (h : Hand H p l) (s : Same H H') : Hand H' p l := by
  obtain ⟨ns, k, c, t, h⟩ := h
  exact ⟨ns, k, c, t, s _ _ h.hp, s _ _ h.hl, h.nn, h.few, h.bd⟩
theorem Hand.at {H : Hp} {p l : Addr} (h : Hand H p l) : ∃ o, H p = some o := by
  obtain ⟨ns, k, c, t, h⟩ := h
  exact ⟨_, h.hp⟩
theorem Hand.set {H : Hp} {p l : Addr} {ns : List Int} {k c t k' c' t' : Int} (h : HandAt H p l ns k c t) (b : 0 ≤ k' ∧ k' ≤ ns.length ∧ 0 ≤ c' ∧ 0 ≤ t' ∧ t' < 2147483629) :
    HandAt (upd H p (.lst [.ref l, .int k', .int c', .int t'])) p l ns k' c' t' :=
  ⟨upd_same, by rw [upd_ne h.ne]; exact h.hl, h.nn, h.few, b⟩
end Jv
namespace K34
open PySem PySem.Spec PyProof.Rows L2
def sp_Lhand (K : PySem.W.Frag) : Sp := fun vs H Q _ => ∃ (a : Addr) (ns : List Int), vs = [.ref a] ∧ SqL K H a (ns.map V.int) ∧ ns.length ≤ 63 ∧ ∀ p l H', Same H H' → H p = none → Jv.Hand H' p l → Q (.ref p) H'
section
variable {P : Program} {w : World} {K : PySem.W.Frag} {mg : Str → Option Value} {base : Heap}
theorem ok_Lhand (T : Tx) (O : Ok K mg T) : FnOk P w K mg base CX0 1 T.f_Lhand T.d_Lhand ["_law_script"] (sp_Lhand K) := by
  refine O.F_Lhand.ok sc_Lhand (fun vs H Q E h => by obtain ⟨a, ns, rfl, _⟩ := h; rfl) (fun cdv A outer s H vs Q E hr h => ?_)
  obtain ⟨a, ns, rfl, hS, few, q⟩ := h
  refine ⟨_, (pss_cons (ps_set (i := 1) sc_Lhand.nd rfl (Or.inl rfl) pe_int)
  (pss_cons (ps_for PassesOwn.never rfl (show PI _ _ _ (iEnum K _) from pi_enum (by rfl) O.z_enumerate (pa_cons (pv 0) pa_nil)) (pg_tup rfl (pgs_cons (pg_name (i := 2) sc_Lhand.nd rfl (Or.inl rfl)) (pgs_cons (pg_name (i := 3) sc_Lhand.nd rfl (Or.inl rfl)) pgs_nil))) (pss_one (ps_set (i := 1) sc_Lhand.nd rfl (Or.inl rfl) (pe_op op_mod (pe_callTy (r := Jv.rInt) Jv.cr_int (by rfl) O.z_int (by decide +kernel) (pa_cons (pe_op op_add (pe_op op_mul (pv 1) pe_int) (pe_op op_mul (pe_callTy (r := Jv.rInt) Jv.cr_int (by rfl) O.z_int (by decide +kernel) (pa_cons (pv 3) pa_nil)) (pe_op op_add (pv 2) pe_int))) pa_nil)) pe_int))))
  (pss_one (ps_ret (pe_lst (pa_cons (pe_lc (own := [("_law_cell", 3)]) (by rfl) sc_Lhand.nd (show PI _ _ _ (iList K _) from pi_list (pv 0)) (blkOk_by (own := [("_law_cell", 3)]) (N := ["_law_script", "_law_total", "_law_k", "_law_cell"]) (sc := defScope s_Lhand) (scope := ({ kind := .function, names := [(".0", .local), ("_law_cell", .local), ("abs", .globalImplicit), ("int", .globalImplicit)], isGenerator := false, isCoroutine := false } : Scope)) (by decide +kernel)) (fun _ _ _ _ _ => (pg_name (i := 3) sc_Lhand.nd rfl (Or.inl rfl))) (fun _ _ _ _ _ => pts_nil) (fun _ _ _ _ _ => (pe_callB (r := Jv.rAbs) Jv.cr_abs (by rfl) O.z_abs (by decide +kernel) (pa_cons (pe_callTy (r := Jv.rInt) Jv.cr_int (by rfl) O.z_int (by decide +kernel) (pa_cons (pv 3) pa_nil)) pa_nil)))) (pa_cons pe_int (pa_cons pe_int (pa_cons (pv 1) pa_nil))))))))), ?_⟩
  walk_at "r"
  refine ⟨_, _, rfl, hS, ?_⟩
  refine for_it (walk_enum (K := K) (a := a) (xs := ns.map V.int)) (fun i σ H' => ∃ y2 y3 tot, σ = [some (.ref a), some (.int tot), y2, y3] ∧ (0 ≤ tot ∧ tot < 2147483629) ∧ Same H H') ⟨_, _, 0, rfl, by decide, fun _ _ e => e⟩ (fun i σ H' _ ⟨_, _, _, _, _, sm⟩ => sm.seq hS) ?_ ?_
  · rintro i x σ H1 H2 hi ⟨y2, y3, tot, rfl, hb, sm⟩ ⟨p, x1, x2, rfl, hp, rfl, hx, hy⟩
    cases hx
    obtain ⟨z, hz, rfl⟩ := Jv.map_at (show (ns.map V.int)[i]? = some x2 from hy)
    rw [List.length_map] at hi
    walk_at "r"
    exact ⟨_, _, _, rfl, by omega, sm.trans (Jv.same_new hp)⟩
  · rintro σ H' ⟨y2, y3, tot, rfl, hb, sm⟩
    walk_at "r"
    refine ⟨_, rfl, _, rfl, ⟨_, sm.seq hS⟩, fun p hp => ?_⟩
    refine lc_it (walk_list (K := K) (a := a) (xs := ns.map V.int)) (fun i H1 => ∃ zs : List Int, Same H H1 ∧ H1 p = some (.lst (zs.map V.int)) ∧ zs.length = i ∧ ∀ z ∈ zs, 0 ≤ z) ⟨[], sm.trans (Jv.same_new hp), upd_same, rfl, by simp⟩ (fun i H1 _ ⟨_, s1, _⟩ => s1.seq hS) ?_ ?_
    · rintro i x H1 H2 hi ⟨zs, s1, e1, hl, nn⟩ ⟨rfl, hx⟩
      obtain ⟨z, hz, rfl⟩ := Jv.map_at hx
      rw [List.length_map] at hi
      walk_at "r"
      refine ⟨zs.map V.int, e1, ?_, zs ++ [if z < 0 then -z else z], ?_, ?_, ?_, ?_⟩
      · rw [List.length_map, hl]; exact Jv.small_lt (by omega)
      · intro b o e; exact Jv.kpO (s1 b o e) (ne_of_none (sm b o e) hp)
      · rw [upd_same, List.map_append]; rfl
      · rw [List.length_append, hl]; rfl
      · intro y hy
        rcases List.mem_append.mp hy with hy | hy
        · exact nn y hy
        · rw [List.mem_singleton.mp hy]; split <;> omega
    · rintro H1 ⟨zs, s1, e1, hl, nn⟩
      walk_at "r"
      intro p2 hp2
      rw [List.length_map] at hl
      exact q p2 p _ (s1.trans (Jv.same_new hp2)) (s1.free hp2) ⟨zs, 0, 0, tot, upd_same, Jv.kp e1 hp2, nn, by omega, by omega⟩
end
end K34

namespace K34
open PySem PySem.Spec PyProof.Rows L2
def sp_Ldraw : Sp := fun vs H Q _ => ∃ (p l : Addr) (m : Int), vs = [.ref p, .int m] ∧ Jv.Hand H p l ∧ (0 < m ∧ m.natAbs.log2 < 9000) ∧ ∀ r H', 0 ≤ r → r < m → Jv.Kp p H H' → Jv.Hand H' p l → Q (.int r) H'
section
variable {P : Program} {w : World} {K : PySem.W.Frag} {mg : Str → Option Value} {base : Heap}
theorem ok_Ldraw (T : Tx) (O : Ok K mg T) : FnOk P w K mg base CX0 2 T.f_Ldraw T.d_Ldraw ["_law_hand_here", "_law_many"] sp_Ldraw := by
  refine O.F_Ldraw.ok sc_Ldraw (fun vs H Q E h => by obtain ⟨_, _, _, rfl, _⟩ := h; rfl) (fun cdv A outer s H vs Q E hr h => ?_)
  obtain ⟨p, l, m, rfl, ⟨ns, k, c, t, hA⟩, ⟨m0, m1⟩, q⟩ := h
  obtain ⟨hp, hl, nn, few, b1, b2, b3, b4, b5⟩ := id hA
  have nlp := hA.ne
  have e0 : ∀ z : Int, 0 ≤ z % m := fun z => Int.emod_nonneg _ (by omega)
  have e1 : ∀ z : Int, z % m < m := fun z => Int.emod_lt_of_pos _ m0
  refine ⟨_, (C8.pss_cut (ps_if (PW.pt (pw_and (pt_cmpR op_eq (pe_ix (r := rIxL K) ix_list (pv 0) pe_int (fun _ _ => rfl)) pe_int (nomark _)) (pw_and1 (pt_cmpR op_lt (pe_ix (r := rIxL K) ix_list (pv 0) pe_int (fun _ _ => rfl)) (pe_callB (r := Jv.rLenK K) Jv.cr_len (by rfl) O.z_len (by decide +kernel) (pa_cons (pe_ix (r := rIxL K) ix_list (pv 0) pe_int (fun _ _ => rfl)) pa_nil)) (nomark _))))) (pss_cons (ps_set (i := 2) sc_Ldraw.nd rfl (Or.inl rfl) (pe_ix (r := rIxL K) ix_list (pe_ix (r := rIxL K) ix_list (pv 0) pe_int (fun _ _ => rfl)) (pe_ix (r := rIxL K) ix_list (pv 0) pe_int (fun _ _ => rfl)) (fun _ _ => rfl)))
  (pss_cons (ps_asg (pe_op op_add (pe_ix (r := rIxL K) ix_list (pv 0) pe_int (fun _ _ => rfl)) pe_int) (pg_sub (pv 0) pe_int set_list))
  (pss_cons (ps_if (pt_cmpR op_lt (pv 2) (pe_op op_pow pe_int pe_int) (nomark _)) (pss_one (ps_ret (pe_op op_mod (pe_callTy (r := Jv.rInt) Jv.cr_int (by rfl) O.z_int (by decide +kernel) (pa_cons (pe_call (ok_Lmix T O) (hr.mono (by decide)) (by rfl) O.m_Lmix O.F_Lmix.kp O.b_Lmix .nil pass0 (pa_cons (pe_op op_mod (pe_callTy (r := Jv.rInt) Jv.cr_int (by rfl) O.z_int (by decide +kernel) (pa_cons (pv 2) pa_nil)) pe_int) (pa_cons (pe_ix (r := rIxL K) ix_list (pv 0) pe_int (fun _ _ => rfl)) pa_nil))) pa_nil)) (pv 1)))) pss_nil)
  (pss_one (ps_asg (pv 2) (pg_sub (pv 0) pe_int set_list)))))) pss_nil)
  (pss_cons (ps_if (pt_cmpR op_gt (pe_ix (r := rIxL K) ix_list (pv 0) pe_int (fun _ _ => rfl)) pe_int (nomark _)) (pss_cons (ps_set (i := 3) sc_Ldraw.nd rfl (Or.inl rfl) (pe_ix (r := rIxL K) ix_list (pv 0) pe_int (fun _ _ => rfl)))
  (pss_cons (ps_asg (pe_op op_fdivW (pv 3) (pv 1)) (pg_sub (pv 0) pe_int set_list))
  (pss_one (ps_ret (pe_op op_mod (pe_callTy (r := Jv.rInt) Jv.cr_int (by rfl) O.z_int (by decide +kernel) (pa_cons (pv 3) pa_nil)) (pv 1)))))) pss_nil)
  (pss_cons (ps_asg (pe_op op_mod (pe_callTy (r := Jv.rInt) Jv.cr_int (by rfl) O.z_int (by decide +kernel) (pa_cons (pe_op op_add (pe_ix (r := rIxL K) ix_list (pv 0) pe_int (fun _ _ => rfl)) pe_int) pa_nil)) pe_int) (pg_sub (pv 0) pe_int set_list))
  (pss_one (ps_ret (pe_op op_mod (pe_callTy (r := Jv.rInt) Jv.cr_int (by rfl) O.z_int (by decide +kernel) (pa_cons (pe_call (ok_Lmix T O) (hr.mono (by decide)) (by rfl) O.m_Lmix O.F_Lmix.kp O.b_Lmix .nil pass0 (pa_cons (pe_ix (r := rIxL K) ix_list (pv 0) pe_int (fun _ _ => rfl)) (pa_cons (pe_ix (r := rIxL K) ix_list (pv 0) pe_int (fun _ _ => rfl)) pa_nil))) pa_nil)) (pv 1))))))), ?_⟩
  refine ⟨fun σ' H' => ∃ k c t y2 y3, σ' = [some (.ref p), some (.int m), y2, y3] ∧ Jv.HandAt H' p l ns k c t ∧ Jv.Kp p H H', ?_, ?_⟩
  · walk_at "r"
    refine Jv.r_decI (fun hc => ?_) (fun hc => ?_)
    · walk_at "r"
      refine Jv.r_dec (fun hk => ?_) (fun hk => ?_)
      · rw [List.length_map] at hk
        have hk2 : k.toNat < ns.length := by omega
        have at1 : atI (ns.map V.int) k = some (.int ns[k.toNat]) := Jv.at_i b1 (Jv.map_get hk2)
        have n0 := nn ns[k.toNat] (List.getElem_mem _)
        generalize ns[k.toNat] = z at at1 n0
        walk_at "r"
        refine' Jv.r_ixL ?hs at1 ?_
        case hs => walk_at "sq"
        walk_at "r"
        refine Jv.r_dec (fun hz => ?_) (fun hz => ?_)
        · walk_at "r"
          refine ⟨_, _, rfl, ⟨by omega, by omega, by omega, by omega⟩, fun r h1 h2 => ?_⟩
          walk_at "r"
          exact q _ _ (e0 _) (e1 _) Jv.Kp.upd ⟨_, _, _, _, Jv.Hand.set hA ⟨by omega, by omega, b3, b4, b5⟩⟩
        · walk_at "r"
          exact ⟨k + 1, z, t, _, _, rfl, Jv.Hand.set (Jv.Hand.set hA ⟨by omega, by omega, b3, b4, b5⟩) ⟨by omega, by omega, n0, b4, b5⟩, Jv.Kp.upd.trans Jv.Kp.upd⟩
      · walk_at "r"
        exact ⟨k, c, t, _, _, rfl, hA, Jv.Kp.refl⟩
    · walk_at "r"
      exact ⟨k, c, t, _, _, rfl, hA, Jv.Kp.refl⟩
  · rintro σ' H' ⟨k, c, t, y2, y3, rfl, hB, kp⟩
    obtain ⟨hp, hl, nn, few, b1, b2, b3, b4, b5⟩ := id hB
    walk_at "r"
    refine Jv.r_dec (fun hc => ?_) (fun hc => ?_)
    · walk_at "r"
      refine q _ _ (e0 _) (e1 _) (kp.trans Jv.Kp.upd) ⟨_, _, _, _, Jv.Hand.set hB ⟨b1, b2, Int.ediv_nonneg b3 (by omega), b4, b5⟩⟩
    · walk_at "r"
      refine ⟨_, _, rfl, ⟨by omega, by omega, b1, by omega⟩, fun r h1 h2 => ?_⟩
      walk_at "r"
      exact q _ _ (e0 _) (e1 _) (kp.trans Jv.Kp.upd) ⟨_, _, _, _, Jv.Hand.set hB ⟨b1, b2, b3, by omega, by omega⟩⟩
end
end K34

namespace K34
open PySem PySem.Spec PyProof.Rows L2
/-! ### told counts -/
def fibP : Nat → Int × Int
  | 0 => (1, 2)
  | n + 1 => ((fibP n).2, (fibP n).1 + (fibP n).2)
def tc (n : Nat) : Int := (fibP n).1
theorem tc_snd (n : Nat) : (fibP n).2 = tc (n + 1) := rfl
theorem tc_add (n : Nat) : tc (n + 2) = tc n + tc (n + 1) := rfl
theorem tc_step : ∀ n, 1 ≤ tc n ∧ tc n < tc (n + 1)
  | 0 => by decide
  | n + 1 => by
    obtain ⟨h1, h2⟩ := tc_step n
    rw [tc_add]
    omega
theorem tc_mono {m n : Nat} (h : m < n) : tc m < tc n := by
  induction n with
  | zero => omega
  | succ n ih =>
    have h1 := (tc_step n).2
    by_cases e : m = n
    · subst e; exact h1
    · have := ih (by omega)
      omega
def askC (n : Nat) : Int := if 0 < n then tc (n - 1) else 1
def sp_check_ladder (K : PySem.W.Frag) (C : Addr) : Sp := fun vs H Q E => ∃ x d m, vs = [x, .int m] ∧ Jv.Dv K H x d ∧
  ((Jv.wholeD d (.int 0) (.int m) = true ∧ Q x H) ∨ (Jv.wholeD d (.int 0) (.int m) = false ∧ ∀ H', Same H H' → E (.ref C) none H'))
def sp_told_count (K : PySem.W.Frag) (C : Addr) : Sp := fun vs H Q E => ∃ x d, vs = [x] ∧ Jv.Dv K H x d ∧
  ((∃ n : Nat, d = .int n ∧ n ≤ 200 ∧ ∀ H', Same H H' → Q (.int (tc n)) H') ∨ (Jv.wholeD d (.int 0) (.int 200) = false ∧ ∀ H', Same H H' → E (.ref C) none H'))
def sp_asked_count (K : PySem.W.Frag) (C : Addr) : Sp := fun vs H Q E => ∃ x d, vs = [x] ∧ Jv.Dv K H x d ∧
  ((∃ n : Nat, d = .int n ∧ n ≤ 200 ∧ ∀ H', Same H H' → Q (.int (askC n)) H') ∨ (Jv.wholeD d (.int 0) (.int 200) = false ∧ ∀ H', Same H H' → E (.ref C) none H'))
def Least (k : Int) (m : Nat) : Prop := m ≤ 200 ∧ k ≤ tc m ∧ ∀ j < m, tc j < k
def sp_least_told (K : PySem.W.Frag) (C : Addr) : Sp := fun vs H Q E => ∃ x d, vs = [x] ∧ Jv.Dv K H x d ∧
  ((∃ k : Int, d = .int k ∧ 1 ≤ k ∧ k ≤ tc 200 ∧ ∀ (m : Nat) H', Least k m → Same H H' → Q (.int m) H') ∨ (Jv.wholeD d (.int 1) (.int (tc 200)) = false ∧ ∀ H', Same H H' → E (.ref C) none H'))
theorem whole_yes {n : Nat} (h : n ≤ 200) : Jv.wholeD (.int n) (.int 0) (.int 200) = true := by
  simp [Jv.wholeD, Jv.loOk, Jv.hiOk]; omega
section
variable {P : Program} {w : World} {K : PySem.W.Frag} {mg : Str → Option Value} {base : Heap}
theorem ok_is_whole (T : Tx) (O : Ok K mg T) : FnOk P w K mg base CX0 1 T.f_is_whole T.d_is_whole ["thing", "low", "high"] (fun vs H Q _ => ∃ x d lo hi, vs = [x, lo, hi] ∧ Jv.Dv K H x d ∧ Jv.Bd lo ∧ Jv.Bd hi ∧ Q (.bl (Jv.wholeV x lo hi)) H) := by
  refine O.F_is_whole.ok sc_is_whole (fun vs H Q E h => by obtain ⟨_, _, _, _, rfl, _⟩ := h; rfl) (fun cdv A outer s H vs Q E hr h => ?_)
  obtain ⟨x, d, lo, hi, rfl, hx, hlo, hhi, q⟩ := h
  refine ⟨_, (pss_cons (ps_if (PW.pt (pw_or (pt_val (pe_callB (r := rIsi K) call_isi (by rfl) O.z_isinstance (by decide +kernel) (pa_cons (pv 0) (pa_cons (pe_bltn (v := .ty "bool") (by rfl) O.z_bool (by decide +kernel) rfl) pa_nil)))) (pw_or1 (pt_not (pt_val (pe_callB (r := rIsi K) call_isi (by rfl) O.z_isinstance (by decide +kernel) (pa_cons (pv 0) (pa_cons (pe_bltn (v := .ty "int") (by rfl) O.z_int (by decide +kernel) rfl) pa_nil)))))))) (pss_one (ps_ret pe_bl)) pss_nil)
  (pss_cons (ps_if (PW.pt (pw_and (pt_cmpR op_notN (pv 1) pe_non (nomark _)) (pw_and1 (pt_cmpR op_lt (pv 0) (pv 1) (nomark _))))) (pss_one (ps_ret pe_bl)) pss_nil)
  (pss_one (ps_ret (pe_or (pe_cmpR op_isN (pv 2) pe_non (nomark _)) (pe_one (pe_cmpR op_le (pv 0) (pv 2) (nomark _)))))))), ?_⟩
  walk_at "r"
  have hx2 := hx
  cases hx2 with
  | int i =>
    rcases hlo with rfl | ⟨a, rfl⟩
    · rcases hhi with rfl | ⟨b, rfl⟩ <;> walk_at "r" <;> exact q
    · by_cases h : i < a
      · rw [Jv.wholeV_lo0 h] at q
        walk_at "rr" <;> exact q
      · rw [Jv.wholeV_lo1 h] at q
        rcases hhi with rfl | ⟨b, rfl⟩ <;> walk_at "rr" <;> exact q
  | _ => walk_at "r"; exact q
theorem ok_check_ladder (T : Tx) (O : Ok K mg T) : FnOk P w K mg base (L2.CX P w) 2 T.f_check_ladder T.d_check_ladder ["ladder", "most"] (sp_check_ladder K T.C_BadLadder) := by
  refine FunD.ok O.F_check_ladder sc_check_ladder (fun vs H Q E h => by obtain ⟨_, _, _, rfl, _⟩ := h; rfl) (fun cdv A outer s H vs Q E hr h => ?_)
  obtain ⟨x, d, m, rfl, hx, qq⟩ := h
  refine ⟨_, (pss_cons (ps_if (pt_not (pt_val (pe_call (ok_is_whole T O) (hr.mono (by decide)) (by rfl) O.m_is_whole O.F_is_whole.kp O.b_is_whole .nil pass0 (pa_cons (pv 0) (pa_cons pe_int (pa_cons (pv 1) pa_nil)))))) (pss_one (ps_raise rfl (takes_of rfl rfl rfl rfl) (Jv.pmk_own0 PySem.F.excBase_ValueError O.e_BadLadder.x O.m_BadLadder O.e_BadLadder.k (O.e_BadLadder.raises) (by rfl)))) pss_nil)
  (pss_one (ps_ret (pv 0)))), ?_⟩
  walk_at "r"
  refine ⟨x, d, .int 0, .int m, rfl, hx, .inr ⟨_, rfl⟩, .inr ⟨_, rfl⟩, ?_⟩
  rw [hx.whole]
  rcases qq with ⟨e, k⟩ | ⟨e, k⟩
  · rw [e]
    walk_at "r"
    exact k
  · rw [e]
    walk_at "r"
    exact k _ (Same.refl _)
theorem ok_told_count (T : Tx) (O : Ok K mg T) : FnOk P w K mg base (L2.CX P w) 3 T.f_told_count T.d_told_count ["ladder"] (sp_told_count K T.C_BadLadder) := by
  refine O.F_told_count.okX sc_told_count (fun vs H Q E h => by obtain ⟨_, _, rfl, _⟩ := h; rfl) (fun cdv A outer s H vs Q E hr h => ?_)
  obtain ⟨x, d, rfl, hx, qq⟩ := h
  refine ⟨_, (pss_cons (ps_expr (pe_callS (ok_check_ladder T O) (hr.mono (by decide)) (by rfl) O.m_check_ladder O.F_check_ladder.kp O.b_check_ladder (fun σ => passAt (takes_of rfl rfl rfl rfl) σ) (pa_cons (pv 0) (pa_cons (pe_glob (v := .int (200)) (by rfl) O.c_COUNT_LADDER_MOST ⟨_, rfl⟩) pa_nil))))
  (pss_cons (ps_asg (pe_tup (pa_cons pe_int (pa_cons pe_int pa_nil))) (pg_tup rfl (pgs_cons (pg_name (i := 1) sc_told_count.nd rfl (Or.inl rfl)) (pgs_cons (pg_name (i := 2) sc_told_count.nd rfl (Or.inl rfl)) pgs_nil))))
  (pss_cons (ps_for (passes_of rfl) rfl (pi_range1 (by rfl) O.z_range (pa_cons (pv 0) pa_nil)) (pg_name (i := 3) sc_told_count.nd rfl (Or.inl rfl)) (pss_one (ps_par (i := 1) (j := 2) rfl sc_told_count.nd rfl rfl (by decide) rfl rfl (pa_cons (pv 2) (pa_cons (pe_op op_add (pv 1) (pv 2)) pa_nil)) rfl)))
  (pss_one (ps_ret (pv 1)))))), ?_⟩
  walk_at "r"
  refine ⟨x, d, 200, rfl, hx, ?_⟩
  rcases qq with ⟨n, rfl, hn, k⟩ | ⟨e, k⟩
  · refine .inl ⟨whole_yes hn, ?_⟩
    obtain rfl : x = .int n := by cases hx; rfl
    walk_at "r"
    intro p hp
    refine Jv.r_gtup (Jv.sqT_at upd_same) rfl ?_
    walk_at "r"
    refine ⟨(n : Int), rfl, by omega, by omega, ?_⟩
    refine for_range (lo := 0) (n := ((n : Int)).toNat) (fun i σ H1 => ∃ y3, σ = [some (.int n), some (.int (fibP i).1), some (.int (fibP i).2), y3] ∧ Same H H1) ⟨_, rfl, Jv.same_new hp⟩ ?_ ?_
    · rintro i σ H1 hi ⟨y3, rfl, s1⟩
      walk_at "r"
      unfold tPar
      walk_at "r"
      exact ⟨_, _, rfl, _, rfl, s1⟩
    · rintro σ H1 ⟨y3, rfl, s1⟩
      walk_at "r"
      exact k _ s1
  · exact .inr ⟨e, k⟩
theorem ok_asked_count (T : Tx) (O : Ok K mg T) : FnOk P w K mg base (L2.CX P w) 4 T.f_asked_count T.d_asked_count ["ladder"] (sp_asked_count K T.C_BadLadder) := by
  refine O.F_asked_count.okX sc_asked_count (fun vs H Q E h => by obtain ⟨_, _, rfl, _⟩ := h; rfl) (fun cdv A outer s H vs Q E hr h => ?_)
  obtain ⟨x, d, rfl, hx, qq⟩ := h
  refine ⟨_, (pss_cons (ps_expr (pe_callS (ok_check_ladder T O) (hr.mono (by decide)) (by rfl) O.m_check_ladder O.F_check_ladder.kp O.b_check_ladder (fun σ => passAt (takes_of rfl rfl rfl rfl) σ) (pa_cons (pv 0) (pa_cons (pe_glob (v := .int (200)) (by rfl) O.c_COUNT_LADDER_MOST ⟨_, rfl⟩) pa_nil))))
  (pss_one (ps_ret (pe_ifExp (pt_cmpR op_gt (pv 0) pe_int (nomark _)) (pe_callS (ok_told_count T O) (hr.mono (by decide)) (by rfl) O.m_told_count O.F_told_count.kp O.b_told_count (fun σ => passAt (takes_of rfl rfl rfl rfl) σ) (pa_cons (pe_op op_sub (pv 0) pe_int) pa_nil)) pe_int)))), ?_⟩
  walk_at "r"
  refine ⟨x, d, 200, rfl, hx, ?_⟩
  rcases qq with ⟨n, rfl, hn, k⟩ | ⟨e, k⟩
  · refine .inl ⟨whole_yes hn, ?_⟩
    obtain rfl : x = .int n := by cases hx; rfl
    walk_at "r"
    refine Jv.r_dec (fun h0 => ?_) (fun h0 => ?_)
    · walk_at "r"
      refine ⟨_, .int (n - 1 : Nat), rfl, ?_, .inl ⟨n - 1, rfl, by omega, fun H' s' => ?_⟩⟩
      · rw [show ((n - 1 : Nat) : Int) = (n : Int) - 1 by omega]
        exact .int _
      · have e : askC n = tc (n - 1) := by unfold askC; rw [if_pos (by omega)]
        rw [← e]
        exact k _ s'
    · walk_at "r"
      have e : askC n = 1 := by unfold askC; rw [if_neg (by omega)]
      rw [e] at k
      exact k _ (Same.refl _)
  · exact .inr ⟨e, k⟩
theorem ok_least_told (T : Tx) (O : Ok K mg T) : FnOk P w K mg base (L2.CX P w) 4 T.f_least_told T.d_least_told ["kinds"] (sp_least_told K T.C_BadKinds) := by
  refine O.F_least_told.okX sc_least_told (fun vs H Q E h => by obtain ⟨_, _, rfl, _⟩ := h; rfl) (fun cdv A outer s H vs Q E hr h => ?_)
  obtain ⟨x, d, rfl, hx, qq⟩ := h
  refine ⟨_, (pss_cons (ps_if (pt_not (pt_val (pe_call (ok_is_whole T O) (hr.mono (by decide)) (by rfl) O.m_is_whole O.F_is_whole.kp O.b_is_whole .nil pass0 (pa_cons (pv 0) (pa_cons pe_int (pa_cons (pe_callS (ok_told_count T O) (hr.mono (by decide)) (by rfl) O.m_told_count O.F_told_count.kp O.b_told_count (fun σ => passAt (takes_of rfl rfl rfl rfl) σ) (pa_cons (pe_glob (v := .int (200)) (by rfl) O.c_COUNT_LADDER_MOST ⟨_, rfl⟩) pa_nil)) pa_nil)))))) (pss_one (ps_raise rfl (takes_of rfl rfl rfl rfl) (Jv.pmk_own0 PySem.F.excBase_ValueError O.e_BadKinds.x O.m_BadKinds O.e_BadKinds.k (O.e_BadKinds.raises) (by rfl)))) pss_nil)
  (pss_cons (ps_set (i := 1) sc_least_told.nd rfl (Or.inl rfl) pe_int)
  (pss_cons (ps_while (passes_of rfl) (pt_cmpR op_lt (pe_callS (ok_told_count T O) (hr.mono (by decide)) (by rfl) O.m_told_count O.F_told_count.kp O.b_told_count (fun σ => passAt (takes_of rfl rfl rfl rfl) σ) (pa_cons (pv 1) pa_nil)) (pv 0) (nomark _)) (pss_one (ps_aug (i := 1) sc_least_told.nd rfl (Or.inl rfl) pe_int ip_add)))
  (pss_one (ps_ret (pv 1)))))), ?_⟩
  walk_at "r"
  refine ⟨_, .int (200 : Nat), rfl, .int _, .inl ⟨200, rfl, Nat.le_refl _, fun H1 s1 => ?_⟩⟩
  walk_at "r"
  refine ⟨x, d, .int 1, .int (tc 200), rfl, hx.same s1, .inr ⟨_, rfl⟩, .inr ⟨_, rfl⟩, ?_⟩
  rw [hx.whole]
  rcases qq with ⟨kk, rfl, k1, k2, k⟩ | ⟨e, k⟩
  · have e : Jv.wholeD (.int kk) (.int 1) (.int (tc 200)) = true := by
      simp only [Jv.wholeD, Jv.loOk, Jv.hiOk]
      rw [decide_eq_true k1, decide_eq_true k2]; rfl
    rw [e]
    obtain rfl : x = .int kk := by cases hx; rfl
    walk_at "r"
    refine ⟨fun m σ H' => ∃ i : Nat, m = 200 - i ∧ i ≤ 200 ∧ σ = [some (.int kk), some (.int i)] ∧ Same H H' ∧ ∀ j < i, tc j < kk, ⟨200, 0, rfl, by decide, rfl, s1, fun j hj => (by omega)⟩, ?_⟩
    rintro m σ H2 ⟨i, rfl, hi, rfl, s2, lo⟩
    walk_at "r"
    refine ⟨_, .int i, rfl, .int _, .inl ⟨i, rfl, hi, fun H3 s3 => ?_⟩⟩
    walk_at "r"
    refine Jv.r_dec (fun hlt => ?_) (fun hlt => ?_)
    · have hi2 : i < 200 := by
        refine Nat.lt_of_le_of_ne hi fun e => ?_
        subst e
        omega
      refine ⟨fun σ' H' => σ' = [some (.int kk), some (.int ((i + 1 : Nat) : Int))] ∧ Same H H', fun σ' H' ⟨e1, s'⟩ => ⟨200 - (i + 1), by omega, i + 1, rfl, hi2, e1, s', fun j hj => ?_⟩, ?_⟩
      · by_cases ej : j = i
        · subst ej; exact hlt
        · exact lo j (by omega)
      · refine ⟨_, rfl, _, _, rfl, rfl, ?_⟩
        exact ⟨rfl, s2.trans s3⟩
    · walk_at "r"
      exact k i _ ⟨hi, by omega, lo⟩ (s2.trans s3)
  · rw [e]
    walk_at "r"
    exact k _ s1
end
end K34

namespace Jv
open PySem PySem.Spec PyProof.Rows L2
/-! ### the hand beside data -/
section
variable {K : PySem.W.Frag} {H H' H1 : Hp} {p l b : Addr} {o : HO}
theorem Hand.ne2 (h : Hand H p l) (n : H b = none) : b ≠ p ∧ b ≠ l := by
  obtain ⟨ns, k, c, t, hA⟩ := h
  exact ⟨fun e => (by rw [e, hA.hp] at n; cases n), fun e => (by rw [e, hA.hl] at n; cases n)⟩
theorem Hand.upd (h : Hand H p l) (n1 : b ≠ p) (n2 : b ≠ l) : Hand (L2.upd H b o) p l := by
  obtain ⟨ns, k, c, t, hA⟩ := h
  exact ⟨ns, k, c, t, by rw [upd_ne n1.symm]; exact hA.hp, by rw [upd_ne n2.symm]; exact hA.hl, hA.nn, hA.few, hA.bd⟩
theorem Kp.free (k : Kp p H H') (h : Hand H' p l) (n : H' b = none) : H b = none := by
  cases e : H b with
  | none => rfl
  | some o =>
    obtain ⟨u, hu⟩ := h.at
    by_cases nb : b = p
    · rw [nb, hu] at n; cases n
    · rw [k b o nb e] at n; cases n
theorem Kp.hide (k : Kp p H H') : Same (Jv.hide [p] H) (Jv.hide [p] H') := fun b o e => by
  obtain ⟨n, e2⟩ := hide_some e
  exact hide_at n (k b o (fun h => n (by rw [h]; exact List.mem_singleton.mpr rfl)) e2)
theorem hide_one {p b : Addr} {o : HO} (n : b ≠ p) (h : H b = some o) : Jv.hide [p] H b = some o := hide_at (fun m => n (List.mem_singleton.mp m)) h
end
end Jv
namespace K34
open PySem PySem.Spec PyProof.Rows L2
/-! ### what the law draws and counts itself -/
def sp_Lis_number : Sp := fun vs H Q _ => ∃ i : Int, vs = [.int i] ∧ Q (.bl true) H
def sp_Lodd_ladder (K : PySem.W.Frag) : Sp := fun vs H Q _ => ∃ h hl, vs = [.ref h, .int 200] ∧ Jv.Hand H h hl ∧ ∀ v d H', Jv.Kp h H H' → Jv.Hand H' h hl → Jv.Dv K H' v d → Jv.wholeD d (.int 0) (.int 200) = false → Q v H'
def sp_Lodd_kinds (K : PySem.W.Frag) : Sp := fun vs H Q _ => ∃ h hl, vs = [.ref h, .int (tc 200)] ∧ Jv.Hand H h hl ∧ ∀ v d H', Jv.Kp h H H' → Jv.Hand H' h hl → Jv.Dv K H' v d → Jv.wholeD d (.int 1) (.int (tc 200)) = false → Q v H'
def rowV (n : Nat) : List V := (List.range n).map fun i => V.int (tc i)
theorem rowV_len (n : Nat) : (rowV n).length = n := by unfold rowV; rw [List.length_map, List.length_range]
theorem rowV_more (n : Nat) : rowV (n + 1) = rowV n ++ [.int (tc n)] := by unfold rowV; rw [List.range_succ, List.map_append]; rfl
theorem rowV_at {n i : Nat} (h : i < n) : (rowV n)[i]? = some (.int (tc i)) := by
  unfold rowV
  rw [List.getElem?_map, List.getElem?_range h]; rfl
theorem atI_neg {xs : List V} {k : Nat} {v : V} (h1 : 1 ≤ k) (h2 : k ≤ xs.length) (h : xs[xs.length - k]? = some v) : atI xs (-(k : Int)) = some v := by
  unfold atI ixN
  rw [if_neg (by omega)]
  rw [if_pos (by omega)]
  show xs[_]? = some v
  rw [← h]
  congr 1
  omega
theorem whole_over {k : Int} : Jv.wholeD (.int (k + 1)) (.int 1) (.int k) = false := by
  simp [Jv.wholeD, Jv.loOk, Jv.hiOk]; omega
theorem whole_under {i k : Int} (h : i < 1) : Jv.wholeD (.int i) (.int 1) (.int k) = false := by
  simp [Jv.wholeD, Jv.loOk, Jv.hiOk]; omega
def sp_Lrow (K : PySem.W.Frag) : Sp := fun vs H Q _ => vs = [] ∧ ∀ D H', Same H H' → H D = none → H' D = some (.lst (rowV 201)) → Q (.ref D) H'
def sp_Lfirst (K : PySem.W.Frag) : Sp := fun vs H Q _ => ∃ D k, vs = [.ref D, .int k] ∧ SqL K H D (rowV 201) ∧ k ≤ tc 200 ∧ ∀ m : Nat, Least k m → Q (.int m) H
section
variable {P : Program} {w : World} {K : PySem.W.Frag} {mg : Str → Option Value} {base : Heap}
theorem ok_Lis_number (T : Tx) (O : Ok K mg T) : FnOk P w K mg base CX0 1 T.f_Lis_number T.d_Lis_number ["_law_thing"] sp_Lis_number := by
  refine O.F_Lis_number.ok sc_Lis_number (fun vs H Q E h => by obtain ⟨_, rfl, _⟩ := h; rfl) (fun cdv A outer s H vs Q E hr h => ?_)
  obtain ⟨i, rfl, q⟩ := h
  refine ⟨_, (pss_one (ps_ret (pe_and (pe_callB (r := rIsi K) call_isi (by rfl) O.z_isinstance (by decide +kernel) (pa_cons (pv 0) (pa_cons (pe_bltn (v := .ty "int") (by rfl) O.z_int (by decide +kernel) rfl) pa_nil))) (pe_one (pe_not (pe_callB (r := rIsi K) call_isi (by rfl) O.z_isinstance (by decide +kernel) (pa_cons (pv 0) (pa_cons (pe_bltn (v := .ty "bool") (by rfl) O.z_bool (by decide +kernel) rfl) pa_nil)))))))), ?_⟩
  have hx : Jv.Dv K H (.int i) (.int i) := .int i
  walk_at "r"
  exact q
theorem ok_Lrow_of_counts (T : Tx) (O : Ok K mg T) : FnOk P w K mg base CX0 1 T.f_Lrow_of_counts T.d_Lrow_of_counts [] (sp_Lrow K) := by
  refine O.F_Lrow_of_counts.ok sc_Lrow_of_counts (fun vs H Q E h => by obtain ⟨rfl, _⟩ := h; rfl) (fun cdv A outer s H vs Q E hr h => ?_)
  obtain ⟨rfl, q⟩ := h
  refine ⟨_, (pss_cons (ps_set (i := 0) sc_Lrow_of_counts.nd rfl (Or.inl rfl) (pe_lst (pa_cons pe_int (pa_cons pe_int pa_nil))))
  (pss_cons (ps_for PassesOwn.never rfl (pi_range1 (by rfl) O.z_range (pa_cons pe_int pa_nil)) (pg_name (i := 1) sc_Lrow_of_counts.nd rfl (Or.inl rfl)) (pss_one (ps_expr (show PE _ _ (tBM K _ _ _ _) from pe_bm PySem.F.plainAttrs_list PySem.F.slot_list_append PySem.F.type_list_append mt_append (pv 0) (pa_cons (pe_op op_add (pe_ix (r := rIx K) ix_seq (pv 0) (pe_un un_neg pe_int) (fun _ _ => rfl)) (pe_ix (r := rIx K) ix_seq (pv 0) (pe_un un_neg pe_int) (fun _ _ => rfl))) pa_nil)))))
  (pss_one (ps_ret (pv 0))))), ?_⟩
  walk_at "r"
  intro D hD
  walk_at "r"
  refine ⟨199, rfl, by decide, by decide, ?_⟩
  refine for_range (lo := 0) (n := ((199 : Int)).toNat) (fun i σ H1 => ∃ y1, σ = [some (.ref D), y1] ∧ Same H H1 ∧ H1 D = some (.lst (rowV (i + 2)))) ⟨_, rfl, Jv.same_new hD, upd_same⟩ ?_ ?_
  · rintro i σ H1 hi ⟨y1, rfl, s1, e1⟩
    have hi2 : i < 199 := hi
    walk_at "r"
    refine Jv.Sk.ix (xs := rowV (i + 2)) ⟨D, rfl, .inl (Jv.sqL_at e1)⟩ (v := .int (tc (i + 1))) (show atI _ (-1) = _ from atI_neg (k := 1) (by omega) (by rw [rowV_len]; omega) (by rw [rowV_len]; exact rowV_at (by omega))) ?_
    walk_at "r"
    refine Jv.Sk.ix (xs := rowV (i + 2)) ⟨D, rfl, .inl (Jv.sqL_at e1)⟩ (v := .int (tc i)) (show atI _ (-2) = _ from atI_neg (k := 2) (by omega) (by rw [rowV_len]; omega) (by rw [rowV_len]; exact rowV_at (by omega))) ?_
    walk_at "r"
    refine Jv.r_app e1 (by rw [rowV_len]; omega) ?_
    refine ⟨_, rfl, fun b o e => Jv.kpO (s1 b o e) (ne_of_none e hD), ?_⟩
    rw [upd_same, rowV_more (i + 2), tc_add, Int.add_comm]
  · rintro σ H1 ⟨y1, rfl, s1, e1⟩
    walk_at "r"
    exact q D H1 s1 hD e1
theorem ok_Lfirst_enough (T : Tx) (O : Ok K mg T) : FnOk P w K mg base CX0 1 T.f_Lfirst_enough T.d_Lfirst_enough ["_law_row", "_law_kinds"] (sp_Lfirst K) := by
  refine O.F_Lfirst_enough.ok sc_Lfirst_enough (fun vs H Q E h => by obtain ⟨_, _, rfl, _⟩ := h; rfl) (fun cdv A outer s H vs Q E hr h => ?_)
  obtain ⟨D, k, rfl, sq, hk, q⟩ := h
  refine ⟨_, (pss_cons (ps_for PassesOwn.never rfl (pi_range1 (by rfl) O.z_range (pa_cons (pe_callB (r := Jv.rLenK K) Jv.cr_len (by rfl) O.z_len (by decide +kernel) (pa_cons (pv 0) pa_nil)) pa_nil)) (pg_name (i := 2) sc_Lfirst_enough.nd rfl (Or.inl rfl)) (pss_one (ps_if (pt_cmpR op_ge (pe_ix (r := rIx K) ix_seq (pv 0) (pv 2) (fun _ _ => rfl)) (pv 1) (nomark _)) (pss_one (ps_ret (pv 2))) pss_nil)))
  (pss_one (ps_ret (pe_un un_neg pe_int)))), ?_⟩
  walk_at "r"
  rw [rowV_len]
  refine ⟨(201 : Nat), rfl, by decide, by decide, ?_⟩
  refine for_range (lo := 0) (n := (((201 : Nat) : Int)).toNat) (fun i σ H1 => ∃ y2, σ = [some (.ref D), some (.int k), y2] ∧ H1 = H ∧ ∀ j < i, tc j < k) ⟨_, rfl, rfl, fun j hj => (by omega)⟩ ?_ ?_
  · rintro i σ H1 hi ⟨y2, rfl, rfl, lo⟩
    have hi2 : i < 201 := hi
    walk_at "r"
    refine Jv.Sk.ix (xs := rowV 201) ⟨D, rfl, .inl sq⟩ (v := .int (tc i)) (Jv.at_i (show 0 ≤ (0 : Int) + (i : Nat) by omega) (by rw [Int.zero_add, Int.toNat_natCast]; exact rowV_at hi2)) ?_
    walk_at "r"
    refine Jv.r_dec (fun hle => ?_) (fun hle => ?_)
    · walk_at "r"
      rw [Int.zero_add]
      exact q i ⟨by omega, hle, lo⟩
    · refine ⟨_, rfl, rfl, fun j hj => ?_⟩
      by_cases e : j = i
      · subst e; omega
      · exact lo j (by omega)
  · rintro σ H1 ⟨y2, rfl, rfl, lo⟩
    have := lo 200 (by decide)
    omega
theorem ok_Lodd_ladder (T : Tx) (O : Ok K mg T) : FnOk P w K mg base CX0 3 T.f_Lodd_ladder T.d_Lodd_ladder ["_law_hand_here", "_law_most"] (sp_Lodd_ladder K) := by
  refine O.F_Lodd_ladder.ok sc_Lodd_ladder (fun vs H Q E h => by obtain ⟨_, _, rfl, _⟩ := h; rfl) (fun cdv A outer s H vs Q E hr h => ?_)
  obtain ⟨h, hl, rfl, hh, q⟩ := h
  refine ⟨_, (pss_cons (ps_set (i := 2) sc_Lodd_ladder.nd rfl (Or.inl rfl) (pe_lst (pa_cons (pe_un un_neg pe_int) (pa_cons (pe_op op_add (pv 1) pe_int) (pa_cons pe_non (pa_cons pe_bl (pa_cons pe_str (pa_cons (pe_tup (pa_cons pe_int pa_nil)) (pa_cons (pe_op op_pow pe_int pe_int) (pa_cons pe_bl (pa_cons (pe_un un_neg (pe_op op_pow pe_int pe_int)) (pa_cons (pe_lst (pa_cons pe_int pa_nil)) pa_nil))))))))))))
  (pss_one (ps_ret (pe_ix (r := rIx K) ix_seq (pv 2) (pe_call (ok_Ldraw T O) (hr.mono (by decide)) (by rfl) O.m_Ldraw O.F_Ldraw.kp O.b_Ldraw .nil pass0 (pa_cons (pv 0) (pa_cons (pe_callB (r := Jv.rLenK K) Jv.cr_len (by rfl) O.z_len (by decide +kernel) (pa_cons (pv 2) pa_nil)) pa_nil))) (fun _ _ => rfl))))), ?_⟩
  walk_at "r"
  intro t ht
  obtain ⟨nth, ntl⟩ := hh.ne2 ht
  walk_at "r"
  intro t2 ht2
  have nt2 : t ≠ t2 := fun e => by rw [← e, upd_same] at ht2; cases ht2
  have m1 := Jv.same_new (u := .tup [.int 2]) ht
  have m2 := Jv.same_new (u := .lst [.int 1]) ht2
  obtain ⟨nth2, ntl2⟩ := (hh.same m1).ne2 ht2
  walk_at "r"
  intro D hD
  have m3 := Jv.same_new (u := .lst [V.int (-1), V.int (200 + 1), V.non, V.bl true, V.str "2", V.ref t, V.int (10 ^ Int.toNat 30), V.bl false, V.int (-10 ^ Int.toNat 20), V.ref t2]) hD
  have et := (m2.trans m3) _ _ upd_same
  have et2 := m3 _ _ upd_same
  have eD : upd (upd (upd H t (.tup [.int 2])) t2 (.lst [.int 1])) D (.lst [V.int (-1), V.int (200 + 1), V.non, V.bl true, V.str "2", V.ref t, V.int (10 ^ Int.toNat 30), V.bl false, V.int (-10 ^ Int.toNat 20), V.ref t2]) D = some (.lst [V.int (-1), V.int (200 + 1), V.non, V.bl true, V.str "2", V.ref t, V.int (10 ^ Int.toNat 30), V.bl false, V.int (-10 ^ Int.toNat 20), V.ref t2]) := upd_same
  have s3 := (m1.trans m2).trans m3
  obtain ⟨nDh, nDl⟩ := (hh.same (m1.trans m2)).ne2 hD
  generalize upd (upd (upd H t (.tup [.int 2])) t2 (.lst [.int 1])) D (.lst [V.int (-1), V.int (200 + 1), V.non, V.bl true, V.str "2", V.ref t, V.int (10 ^ Int.toNat 30), V.bl false, V.int (-10 ^ Int.toNat 20), V.ref t2]) = H3 at et et2 eD s3 ⊢
  clear m1 m2 m3 ht ht2 hD nt2
  walk_at "r"
  refine ⟨h, hl, 10, rfl, hh.same s3, ⟨by decide, Jv.log_small (by decide) (by decide)⟩, fun z H4 z0 z1 k4 h4 => ?_⟩
  have eD := k4 _ _ nDh eD
  have et := k4 _ _ nth et
  have et2 := k4 _ _ nth2 et2
  have z2 : z < 10 := z1
  have kk : Jv.Kp h H H4 := (Jv.Kp.same s3).trans k4
  walk_at "r"
  have hz : z = 0 ∨ z = 1 ∨ z = 2 ∨ z = 3 ∨ z = 4 ∨ z = 5 ∨ z = 6 ∨ z = 7 ∨ z = 8 ∨ z = 9 := by omega
  rcases hz with rfl | rfl | rfl | rfl | rfl | rfl | rfl | rfl | rfl | rfl
  · exact Jv.Sk.ix ⟨D, rfl, .inl (Jv.sqL_at eD)⟩ (v := .int (-1)) rfl (q _ (.int (-1)) _ kk h4 (.int _) (by decide +kernel))
  · exact Jv.Sk.ix ⟨D, rfl, .inl (Jv.sqL_at eD)⟩ (v := .int (200 + 1)) rfl (q _ (.int 201) _ kk h4 (.int _) (by decide +kernel))
  · exact Jv.Sk.ix ⟨D, rfl, .inl (Jv.sqL_at eD)⟩ (v := .non) rfl (q _ (.none) _ kk h4 (.non) (rfl))
  · exact Jv.Sk.ix ⟨D, rfl, .inl (Jv.sqL_at eD)⟩ (v := .bl true) rfl (q _ (.bool true) _ kk h4 (.bl _) (rfl))
  · exact Jv.Sk.ix ⟨D, rfl, .inl (Jv.sqL_at eD)⟩ (v := .str "2") rfl (q _ (.str "2") _ kk h4 (.str _) (rfl))
  · exact Jv.Sk.ix ⟨D, rfl, .inl (Jv.sqL_at eD)⟩ (v := .ref t) rfl (q _ (.tuple [.int 2]) _ kk h4 (.tup (Jv.sqT_at et) (.cons (.int _) .nil)) (rfl))
  · exact Jv.Sk.ix ⟨D, rfl, .inl (Jv.sqL_at eD)⟩ (v := .int (10 ^ Int.toNat 30)) rfl (q _ (.int (10 ^ Int.toNat 30)) _ kk h4 (.int _) (by decide +kernel))
  · exact Jv.Sk.ix ⟨D, rfl, .inl (Jv.sqL_at eD)⟩ (v := .bl false) rfl (q _ (.bool false) _ kk h4 (.bl _) (rfl))
  · exact Jv.Sk.ix ⟨D, rfl, .inl (Jv.sqL_at eD)⟩ (v := .int (-10 ^ Int.toNat 20)) rfl (q _ (.int (-10 ^ Int.toNat 20)) _ kk h4 (.int _) (by decide +kernel))
  · exact Jv.Sk.ix ⟨D, rfl, .inl (Jv.sqL_at eD)⟩ (v := .ref t2) rfl (q _ (.list [.int 1]) _ kk h4 (.lst et2 (.cons (.int _) .nil)) (rfl))
theorem ok_Lodd_kinds (T : Tx) (O : Ok K mg T) : FnOk P w K mg base CX0 3 T.f_Lodd_kinds T.d_Lodd_kinds ["_law_hand_here", "_law_most"] (sp_Lodd_kinds K) := by
  refine O.F_Lodd_kinds.ok sc_Lodd_kinds (fun vs H Q E h => by obtain ⟨_, _, rfl, _⟩ := h; rfl) (fun cdv A outer s H vs Q E hr h => ?_)
  obtain ⟨h, hl, rfl, hh, q⟩ := h
  refine ⟨_, (pss_cons (ps_set (i := 2) sc_Lodd_kinds.nd rfl (Or.inl rfl) (pe_lst (pa_cons pe_int (pa_cons (pe_un un_neg pe_int) (pa_cons (pe_op op_add (pv 1) pe_int) (pa_cons pe_non (pa_cons pe_bl (pa_cons pe_str (pa_cons (pe_tup (pa_cons pe_int pa_nil)) (pa_cons (pe_un un_neg (pe_op op_pow pe_int pe_int)) (pa_cons (pe_lst (pa_cons pe_int pa_nil)) (pa_cons pe_bl pa_nil))))))))))))
  (pss_one (ps_ret (pe_ix (r := rIx K) ix_seq (pv 2) (pe_call (ok_Ldraw T O) (hr.mono (by decide)) (by rfl) O.m_Ldraw O.F_Ldraw.kp O.b_Ldraw .nil pass0 (pa_cons (pv 0) (pa_cons (pe_callB (r := Jv.rLenK K) Jv.cr_len (by rfl) O.z_len (by decide +kernel) (pa_cons (pv 2) pa_nil)) pa_nil))) (fun _ _ => rfl))))), ?_⟩
  walk_at "r"
  intro t ht
  obtain ⟨nth, ntl⟩ := hh.ne2 ht
  walk_at "r"
  intro t2 ht2
  have nt2 : t ≠ t2 := fun e => by rw [← e, upd_same] at ht2; cases ht2
  have m1 := Jv.same_new (u := .tup [.int 1]) ht
  have m2 := Jv.same_new (u := .lst [.int 2]) ht2
  obtain ⟨nth2, ntl2⟩ := (hh.same m1).ne2 ht2
  walk_at "r"
  intro D hD
  have m3 := Jv.same_new (u := .lst [V.int 0, V.int (-1), V.int (tc 200 + 1), V.non, V.bl true, V.str "1", V.ref t, V.int (-10 ^ Int.toNat 20), V.ref t2, V.bl false]) hD
  have et := (m2.trans m3) _ _ upd_same
  have et2 := m3 _ _ upd_same
  have eD : upd (upd (upd H t (.tup [.int 1])) t2 (.lst [.int 2])) D (.lst [V.int 0, V.int (-1), V.int (tc 200 + 1), V.non, V.bl true, V.str "1", V.ref t, V.int (-10 ^ Int.toNat 20), V.ref t2, V.bl false]) D = some (.lst [V.int 0, V.int (-1), V.int (tc 200 + 1), V.non, V.bl true, V.str "1", V.ref t, V.int (-10 ^ Int.toNat 20), V.ref t2, V.bl false]) := upd_same
  have s3 := (m1.trans m2).trans m3
  obtain ⟨nDh, nDl⟩ := (hh.same (m1.trans m2)).ne2 hD
  generalize upd (upd (upd H t (.tup [.int 1])) t2 (.lst [.int 2])) D (.lst [V.int 0, V.int (-1), V.int (tc 200 + 1), V.non, V.bl true, V.str "1", V.ref t, V.int (-10 ^ Int.toNat 20), V.ref t2, V.bl false]) = H3 at et et2 eD s3 ⊢
  clear m1 m2 m3 ht ht2 hD nt2
  walk_at "r"
  refine ⟨h, hl, 10, rfl, hh.same s3, ⟨by decide, Jv.log_small (by decide) (by decide)⟩, fun z H4 z0 z1 k4 h4 => ?_⟩
  have eD := k4 _ _ nDh eD
  have et := k4 _ _ nth et
  have et2 := k4 _ _ nth2 et2
  have z2 : z < 10 := z1
  have kk : Jv.Kp h H H4 := (Jv.Kp.same s3).trans k4
  walk_at "r"
  have hz : z = 0 ∨ z = 1 ∨ z = 2 ∨ z = 3 ∨ z = 4 ∨ z = 5 ∨ z = 6 ∨ z = 7 ∨ z = 8 ∨ z = 9 := by omega
  rcases hz with rfl | rfl | rfl | rfl | rfl | rfl | rfl | rfl | rfl | rfl
  · exact Jv.Sk.ix ⟨D, rfl, .inl (Jv.sqL_at eD)⟩ (v := .int 0) rfl (q _ (.int 0) _ kk h4 (.int _) (whole_under (by decide)))
  · exact Jv.Sk.ix ⟨D, rfl, .inl (Jv.sqL_at eD)⟩ (v := .int (-1)) rfl (q _ (.int (-1)) _ kk h4 (.int _) (whole_under (by decide)))
  · exact Jv.Sk.ix ⟨D, rfl, .inl (Jv.sqL_at eD)⟩ (v := .int (tc 200 + 1)) rfl (q _ (.int (tc 200 + 1)) _ kk h4 (.int _) (whole_over))
  · exact Jv.Sk.ix ⟨D, rfl, .inl (Jv.sqL_at eD)⟩ (v := .non) rfl (q _ (.none) _ kk h4 (.non) (rfl))
  · exact Jv.Sk.ix ⟨D, rfl, .inl (Jv.sqL_at eD)⟩ (v := .bl true) rfl (q _ (.bool true) _ kk h4 (.bl _) (rfl))
  · exact Jv.Sk.ix ⟨D, rfl, .inl (Jv.sqL_at eD)⟩ (v := .str "1") rfl (q _ (.str "1") _ kk h4 (.str _) (rfl))
  · exact Jv.Sk.ix ⟨D, rfl, .inl (Jv.sqL_at eD)⟩ (v := .ref t) rfl (q _ (.tuple [.int 1]) _ kk h4 (.tup (Jv.sqT_at et) (.cons (.int _) .nil)) (rfl))
  · exact Jv.Sk.ix ⟨D, rfl, .inl (Jv.sqL_at eD)⟩ (v := .int (-10 ^ Int.toNat 20)) rfl (q _ (.int (-10 ^ Int.toNat 20)) _ kk h4 (.int _) (whole_under (by decide)))
  · exact Jv.Sk.ix ⟨D, rfl, .inl (Jv.sqL_at eD)⟩ (v := .ref t2) rfl (q _ (.list [.int 2]) _ kk h4 (.lst et2 (.cons (.int _) .nil)) (rfl))
  · exact Jv.Sk.ix ⟨D, rfl, .inl (Jv.sqL_at eD)⟩ (v := .bl false) rfl (q _ (.bool false) _ kk h4 (.bl _) (rfl))
end
end K34

namespace Jv
open PySem PySem.Spec PyProof.Rows L2
/-! ### a clause of another class; static methods that may raise within a try -/
theorem exm_no {K : PySem.W.Frag} {C D : Addr} (b : PySem.W.subIn K (.ref D) (.type "BaseException") = some true) (i : PySem.W.isClsIn K D = true) (t : PySem.W.typeIn K (.ref D) = some (.type "type")) (s : PySem.W.subIn K (.ref C) (.ref D) = some false) :
    PySem.W.exmOne K (.ref C) (.ref D) = some false := by
  have i' : (PySem.W.clsIn K D).isSome = true := i
  unfold PySem.W.exmOne PySem.W.kitCls
  simp [b, i', t, s]
theorem ExcP.no {K : PySem.W.Frag} {C D : Addr} (h : ExcP K D) (s : PySem.W.subIn K (.ref C) (.ref D) = some false) : PySem.W.exmOne K (.ref C) (.ref D) = some false := exm_no h.b h.i h.t s
end Jv
namespace K34
open PySem PySem.Spec PyProof.Rows L2
/-! ### what a call that is handed in tells -/
/-- the call's reading: raises of an exception without fields, or an answer -/
def TTref (CL CK : Addr) : (XK → Hp → VK → Prop) → Hp → VK → Prop := fun tl H Q => ∀ R : VK, (∀ v H', (∀ t, H' t = none → Q (.ref t) (upd H' t (.tup [.str "let", v]))) → R v H') →
  tl (fun cls d H' => (cls = .ref CL ∧ d = none ∧ ∀ t, H' t = none → Q (.ref t) (upd H' t (.tup [.str "ladder", .bl true]))) ∨ (cls = .ref CK ∧ d = none ∧ ∀ t, H' t = none → Q (.ref t) (upd H' t (.tup [.str "kinds", .bl true])))) H R
structure XR (K : PySem.W.Frag) (T : Tx) : Prop where
  xl : Jv.XiC K T.C_BadLadder
  xk : Jv.XiC K T.C_BadKinds
  l1 : PySem.W.kitOne K (.ref T.C_BadLadder) (.ref T.C_CallError) = some true
  l2 : PySem.W.kitOne K (.ref T.C_BadLadder) (.type "ValueError") = some true
  l3 : PySem.W.kitOne K (.ref T.C_BadLadder) (.ref T.C_BadKinds) = some false
  k1 : PySem.W.kitOne K (.ref T.C_BadKinds) (.ref T.C_CallError) = some true
  k2 : PySem.W.kitOne K (.ref T.C_BadKinds) (.type "ValueError") = some true
  k3 : PySem.W.kitOne K (.ref T.C_BadKinds) (.ref T.C_BadLadder) = some false
section
variable {X : Cx}
theorem refused_gives (T : Tx) (O : Ok X.K X.mg T) (Z : XR X.K T) {g : Addr} {cdg : Value} {q : Str} : LamX.GivesTo X ["_law_call", "_law_found", "e"] "_law_refused" (defScope s_Lrefused) g cdg (defBody s_Lrefused) "_law_call" q (TTref T.C_BadLadder T.C_BadKinds) := by
  intro f c' s H Q tl act hc h
  let K := X.K
  refine ⟨_, (pss_cons (Jv.ps_tryMix rfl rfl takes0 (Jv.Cls2.named (i := 2) sc_Lrefused.nd rfl rfl ⟨rfl, by decide, .inl O.m_BadLadder⟩ (fun a oe cls d pn hz hf => (pss_one (ps_ret (pe_tup (pa_cons pe_str (pa_cons (pe_and (pe_callB (r := Jv.rIsX K a cls d) (Jv.call_isX hz hf) (by rfl) O.z_isinstance (by decide +kernel) (pa_cons (pv 2) (pa_cons (pe_glob (v := .ref _) (by rfl) O.m_CallError rfl) pa_nil))) (pe_and (pe_callB (r := Jv.rIsX K a cls d) (Jv.call_isX hz hf) (by rfl) O.z_isinstance (by decide +kernel) (pa_cons (pv 2) (pa_cons (pe_bltn (v := .ty "ValueError") (by rfl) O.z_ValueError (by decide +kernel) rfl) pa_nil))) (pe_one (pe_not (pe_callB (r := Jv.rIsX K a cls d) (Jv.call_isX hz hf) (by rfl) O.z_isinstance (by decide +kernel) (pa_cons (pv 2) (pa_cons (pe_glob (v := .ref _) (by rfl) O.m_BadKinds rfl) pa_nil))))))) pa_nil)))))) (Jv.Cls2.named (i := 2) sc_Lrefused.nd rfl rfl ⟨rfl, by decide, .inl O.m_BadKinds⟩ (fun a oe cls d pn hz hf => (pss_one (ps_ret (pe_tup (pa_cons pe_str (pa_cons (pe_and (pe_callB (r := Jv.rIsX K a cls d) (Jv.call_isX hz hf) (by rfl) O.z_isinstance (by decide +kernel) (pa_cons (pv 2) (pa_cons (pe_glob (v := .ref _) (by rfl) O.m_CallError rfl) pa_nil))) (pe_and (pe_callB (r := Jv.rIsX K a cls d) (Jv.call_isX hz hf) (by rfl) O.z_isinstance (by decide +kernel) (pa_cons (pv 2) (pa_cons (pe_bltn (v := .ty "ValueError") (by rfl) O.z_ValueError (by decide +kernel) rfl) pa_nil))) (pe_one (pe_not (pe_callB (r := Jv.rIsX K a cls d) (Jv.call_isX hz hf) (by rfl) O.z_isinstance (by decide +kernel) (pa_cons (pv 2) (pa_cons (pe_glob (v := .ref _) (by rfl) O.m_BadLadder rfl) pa_nil))))))) pa_nil)))))) Jv.Cls2.nil)) (fun W pn xe tk _ => (pss_one (ps_set (i := 1) sc_Lrefused.nd rfl (Or.inl rfl) (Jv.pe_exL (n := 3) rfl tk fun E W2 tk2 hW => act W2 pn xe E _ _ tk2 hW)))))
  (pss_one (ps_ret (pe_tup (pa_cons pe_str (pa_cons (pv 1) pa_nil)))))), ?_⟩
  refine ⟨fun cls d H' => (cls = .ref T.C_BadLadder ∧ d = none ∧ ∀ t, H' t = none → Q (.ref t) (upd H' t (.tup [.str "ladder", .bl true]))) ∨ (cls = .ref T.C_BadKinds ∧ d = none ∧ ∀ t, H' t = none → Q (.ref t) (upd H' t (.tup [.str "kinds", .bl true]))), fun cls d σ' H' hE hl => ?_, rfl, hc, h _ fun v H' hv => ?_⟩
  · obtain ⟨s0, s1, s2, rfl⟩ := Jv.slots3 hl
    rcases hE with ⟨rfl, rfl, k⟩ | ⟨rfl, rfl, k⟩
    · refine ⟨true, O.e_BadLadder.e, fun _ a ha => ?_, fun z => nomatch z⟩
      unfold Jv.sNamed
      walk_at "r"
      refine ⟨_, _, _, true, rfl, rfl, Z.xl, rfl, .own _, Z.l1, ?_⟩
      refine ⟨_, rfl, ?_⟩
      walk_at "r"
      refine ⟨_, _, _, true, rfl, rfl, Z.xl, rfl, .ty _, Z.l2, ?_⟩
      refine ⟨_, rfl, ?_⟩
      walk_at "r"
      refine ⟨_, _, _, false, rfl, rfl, Z.xl, rfl, .own _, Z.l3, ?_⟩
      walk_at "r"
      exact k
    · refine ⟨false, O.e_BadLadder.no O.u_BadKinds_BadLadder, fun z => (nomatch z), fun _ => ?_⟩
      refine ⟨true, O.e_BadKinds.e, fun _ a ha => ?_, fun z => nomatch z⟩
      unfold Jv.sNamed
      walk_at "r"
      refine ⟨_, _, _, true, rfl, rfl, Z.xk, rfl, .own _, Z.k1, ?_⟩
      refine ⟨_, rfl, ?_⟩
      walk_at "r"
      refine ⟨_, _, _, true, rfl, rfl, Z.xk, rfl, .ty _, Z.k2, ?_⟩
      refine ⟨_, rfl, ?_⟩
      walk_at "r"
      refine ⟨_, _, _, false, rfl, rfl, Z.xk, rfl, .own _, Z.k3, ?_⟩
      walk_at "r"
      exact k
  · walk_at "r"
    exact hv
end
end K34

namespace Jv
open PySem PySem.Spec PyProof.Rows L2
/-! ### a def whose code object is known; hand and tables -/
theorem fun_okC {P : Program} {w : World} {K : PySem.W.Frag} {mg : Str → Option Value} {base : Heap} {x qual : Str} {st : Stmt} {f : Addr} {fd : FuncData} {N ps : List Str} {k : Nat} {sp : Sp} {oc kV doc pm cdv ct : Value} {od an : Option Addr} {osl : Array (Option Value)}
    (ed : fd = PySem.W.fnOf x qual (defArgs st) (defBody st) (defScope st) .none kV doc pm an cdv ct) (lk : K.lookup f = some ⟨oc, od, .func fd, osl⟩) (hcd : PySem.W.codeIn K cdv qual = true) (S : FnScope N ps (defScope st)) (len : ∀ vs H Q E, sp vs H Q E → vs.length = ps.length)
    (hbody : ∀ (A : Around) (outer : List Env) (s : Shared) (H : Hp) (vs : List V) (Q : VK) (E : XK), Room k (A.deeper (envOfC qual (defScope st) s.heap.objs.size f cdv)) → sp vs H Q E →
      ∃ t, PSs (cxOf CX0 P w K mg base N qual (defScope st) f cdv A outer s H E).nox (defBody st) t ∧ t { nx := fun _ H' => Q .non H', rt := Q } (start N vs) H) : FnOk P w K mg base CX0 (k + 1) f fd ps sp := by
  subst ed
  refine fn_of lk hcd S len fun A outer s H vs Q E hr hsp => ?_
  obtain ⟨t, h, q⟩ := hbody A outer s H vs Q E hr hsp
  exact ⟨t, h.nox, q⟩
theorem Hand.ext {H H' : Hp} {p l : Addr} (h : Hand H p l) (e : LamX.ExtN H H') : Hand H' p l := by
  obtain ⟨ns, k, c, t, hA⟩ := h
  exact ⟨ns, k, c, t, e _ _ hA.hp (fun ps z => by cases z), e _ _ hA.hl (fun ps z => by cases z), hA.nn, hA.few, hA.bd⟩
theorem tabs_kp {T : List (Addr × Str)} {H H' : Hp} {p l : Addr} (t : LamX.Tabs T H) (h : Hand H p l) (k : Kp p H H') : LamX.Tabs T H' := fun q hq => by
  obtain ⟨ps, h1, h2, h3⟩ := t q hq
  obtain ⟨ns, kk, c, tt, hA⟩ := h
  have ne : ∀ b o, H b = some o → (∀ xs, o ≠ .lst xs) → b ≠ p := fun b o e n z => by
    rw [z, hA.hp] at e
    exact n _ (Option.some.inj e).symm
  refine ⟨ps, k _ _ (ne _ _ h1 (fun xs z => by cases z)) h1, h2, fun pos cv hc => ?_⟩
  obtain ⟨c, e1, e2⟩ := h3 pos cv hc
  exact ⟨c, e1, k _ _ (ne _ _ e2 (fun xs z => by unfold LamX.CodeO at z; cases z)) e2⟩
theorem sqT_ext {K : PySem.W.Frag} {H H' : Hp} {a : Addr} {xs : List V} (e : LamX.ExtN H H') (h : SqT K H a xs) : SqT K H' a xs := by
  rcases h with (h | ⟨o, h⟩) | h
  · exact .inl (.inl (e _ _ h (fun _ z => by cases z)))
  · exact .inl (.inr ⟨o, e _ _ h (fun _ z => by cases z)⟩)
  · exact .inr h
mutual
theorem Dv.ext {K : PySem.W.Frag} {H H' : Hp} (s : LamX.ExtN H H') : ∀ {v : V} {d : PyData}, Dv K H v d → Dv K H' v d
  | _, _, .non => .non
  | _, _, .bl b => .bl b
  | _, _, .int i => .int i
  | _, _, .str x => .str x
  | _, _, .lst h q => .lst (s _ _ h (fun _ z => by cases z)) (DvAll.ext s q)
  | _, _, .tup h q => .tup (sqT_ext s h) (DvAll.ext s q)
theorem DvAll.ext {K : PySem.W.Frag} {H H' : Hp} (s : LamX.ExtN H H') : ∀ {vs : List V} {ds : List PyData}, DvAll K H vs ds → DvAll K H' vs ds
  | _, _, .nil => .nil
  | _, _, .cons a b => .cons (Dv.ext s a) (DvAll.ext s b)
end
end Jv
namespace K34
open PySem PySem.Spec PyProof.Rows L2
/-! ### the law -/
abbrev TLof (Pt : Addr) : List (Addr × Str) := [(Pt, ("law" ++ ".<locals>.") ++ "<lambda>")]
def sp_lawT (K : PySem.W.Frag) (Pt : Addr) : Sp := fun vs H Q _ => ∃ (a : Addr) (ns : List Int), vs = [.ref a] ∧ SqL K H a (ns.map V.int) ∧ ns.length ≤ 63 ∧ H Pt = some (.tbl #[]) ∧ ∀ H', Q (.bl true) H'
structure LawC (K : PySem.W.Frag) (T : Tx) (c : Addr) : Prop where
  ex : ∃ (oc : Value) (od : Option Addr) (kV doc pm : Value) (an : Option Addr) (ct : Value) (osl : Array (Option Value)),
    T.d_law = PySem.W.fnOf "law" "law" (defArgs s_law) (defBody s_law) (defScope s_law) .none kV doc pm an (.ref c) ct ∧ K.lookup T.f_law = some ⟨oc, od, .func T.d_law, osl⟩ ∧ PySem.W.codeIn K (.ref c) "law" = true
theorem Least.uniq {k : Int} {m n : Nat} (a : Least k m) (b : Least k n) : m = n := by
  obtain ⟨_, a1, a2⟩ := a
  obtain ⟨_, b1, b2⟩ := b
  rcases Nat.lt_trichotomy m n with h | h | h
  · have := b2 m h; omega
  · exact h
  · have := a2 n h; omega
theorem Least.at {n : Nat} (h : n ≤ 200) : Least (tc n) n := ⟨h, Int.le_refl _, fun _ hj => tc_mono hj⟩
theorem tc_le {m n : Nat} (h : m ≤ n) : tc m ≤ tc n := by
  rcases Nat.lt_or_eq_of_le h with h | rfl
  · have := tc_mono h; omega
  · omega
section
variable {P : Program} {w : World} {K : PySem.W.Frag} {mg : Str → Option Value} {base : Heap}
theorem ok_law (T : Tx) (O : Ok K mg T) (Z : XR K T) {c Pt : Addr} (C : LawC K T c) (TB : LamX.TabB base mg c Pt) : FnOk P w K mg base CX0 7 T.f_law T.d_law ["_law_script"] (sp_lawT K Pt) := by
  obtain ⟨oc, od, kV, doc, pm, an, ct, osl, ed, lk, hcd⟩ := C.ex
  obtain ⟨_, _, _, _, _, _, cdvR, _, _, edR, lkR, hcR⟩ := O.F_Lrefused.ex
  have bR := O.b_Lrefused
  rw [edR] at lkR bR
  refine Jv.fun_okC ed lk hcd sc_law (fun vs H Q E h => by obtain ⟨_, _, rfl, _⟩ := h; rfl) (fun A outer s H vs Q E hr h => ?_)
  obtain ⟨sc, ns, rfl, hS, few, hP, fin⟩ := h
  refine ⟨_, (pss_cons (ps_set (i := 1) sc_law.nd rfl (Or.inl rfl) (pe_call (ok_Lhand T O) (hr.mono (by decide)) (by rfl) O.m_Lhand O.F_Lhand.kp O.b_Lhand .nil pass0 (pa_cons (pv 0) pa_nil)))
  (pss_cons (ps_set (i := 2) sc_law.nd rfl (Or.inl rfl) (pe_call0 (ok_Lrow_of_counts T O) (hr.mono (by decide)) (by rfl) O.m_Lrow_of_counts O.F_Lrow_of_counts.kp O.b_Lrow_of_counts .nil pass0))
  (pss_cons (ps_for PassesOwn.never rfl (pi_range1 (by rfl) O.z_range (pa_cons pe_int pa_nil)) (pg_name (i := 3) sc_law.nd rfl (Or.inl rfl)) (C8.pss_cut (ps_set (i := 4) sc_law.nd rfl (Or.inl rfl) (pe_ifExp (pt_cmpR op_eq (pe_op op_and (pv 3) pe_int) pe_int (nomark _)) (pe_call (ok_Ldraw T O) (hr.mono (by decide)) (by rfl) O.m_Ldraw O.F_Ldraw.kp O.b_Ldraw .nil pass0 (pa_cons (pv 1) (pa_cons pe_int pa_nil))) (pe_call (ok_Ldraw T O) (hr.mono (by decide)) (by rfl) O.m_Ldraw O.F_Ldraw.kp O.b_Ldraw .nil pass0 (pa_cons (pv 1) (pa_cons pe_int pa_nil)))))
  (pss_cons (ps_set (i := 5) sc_law.nd rfl (Or.inl rfl) (pe_call (E := E0) (ok_told_count T O) (hr.mono (by decide)) (by rfl) O.m_told_count O.F_told_count.kp O.b_told_count .nil passL (pa_cons (pv 4) pa_nil)))
  (pss_cons (ps_if (PW.pt (pw_or (pt_not (pt_val (pe_call (ok_Lis_number T O) (hr.mono (by decide)) (by rfl) O.m_Lis_number O.F_Lis_number.kp O.b_Lis_number .nil pass0 (pa_cons (pv 5) pa_nil)))) (pw_or1 (pt_cmpR op_ne (pv 5) (pe_ix (r := rIx K) ix_seq (pv 2) (pv 4) (fun _ _ => rfl)) (nomark _))))) (pss_one (ps_ret pe_bl)) pss_nil)
  (pss_cons (ps_set (i := 6) sc_law.nd rfl (Or.inl rfl) (pe_call (E := E0) (ok_asked_count T O) (hr.mono (by decide)) (by rfl) O.m_asked_count O.F_asked_count.kp O.b_asked_count .nil passL (pa_cons (pv 4) pa_nil)))
  (C8.pss_cut (ps_if (PW.pt (pw_or (pt_not (pt_val (pe_call (ok_Lis_number T O) (hr.mono (by decide)) (by rfl) O.m_Lis_number O.F_Lis_number.kp O.b_Lis_number .nil pass0 (pa_cons (pv 6) pa_nil)))) (pw_or1 (pt_cmpR op_ne (pv 6) (pe_ifExp (pt_cmpR op_gt (pv 4) pe_int (nomark _)) (pe_ix (r := rIx K) ix_seq (pv 2) (pe_op op_sub (pv 4) pe_int) (fun _ _ => rfl)) pe_int) (nomark _))))) (pss_one (ps_ret pe_bl)) pss_nil)
  (C8.pss_cut (ps_if (PW.pt (pw_and (pt_cmpR op_gt (pv 4) pe_int (nomark _)) (pw_and1 (PW.pt (pw_or (pt_cmpR op_ne (pe_call (E := E0) (ok_least_told T O) (hr.mono (by decide)) (by rfl) O.m_least_told O.F_least_told.kp O.b_least_told .nil passL (pa_cons (pe_ix (r := rIx K) ix_seq (pv 2) (pv 4) (fun _ _ => rfl)) pa_nil)) (pv 4) (nomark _)) (pw_or1 (pt_cmpR op_ne (pe_call (E := E0) (ok_least_told T O) (hr.mono (by decide)) (by rfl) O.m_least_told O.F_least_told.kp O.b_least_told .nil passL (pa_cons (pe_op op_sub (pe_ix (r := rIx K) ix_seq (pv 2) (pv 4) (fun _ _ => rfl)) pe_int) pa_nil)) (pe_call (ok_Lfirst_enough T O) (hr.mono (by decide)) (by rfl) O.m_Lfirst_enough O.F_Lfirst_enough.kp O.b_Lfirst_enough .nil pass0 (pa_cons (pv 2) (pa_cons (pe_op op_sub (pe_ix (r := rIx K) ix_seq (pv 2) (pv 4) (fun _ _ => rfl)) pe_int) pa_nil))) (nomark _)))))))) (pss_one (ps_ret pe_bl)) pss_nil)
  (C8.pss_cut (ps_set (i := 7) sc_law.nd rfl (Or.inl rfl) (pe_ix (r := rIxL K) ix_list (pe_lst (pa_cons (pe_op op_add (pe_ix (r := rIx K) ix_seq (pv 2) (pv 4) (fun _ _ => rfl)) pe_int) (pa_cons (pe_op op_add (pe_ix (r := rIx K) ix_seq (pv 2) (pv 4) (fun _ _ => rfl)) (pe_call (ok_Ldraw T O) (hr.mono (by decide)) (by rfl) O.m_Ldraw O.F_Ldraw.kp O.b_Ldraw .nil pass0 (pa_cons (pv 1) (pa_cons pe_int pa_nil)))) (pa_cons (pe_op op_add pe_int (pe_call (ok_Ldraw T O) (hr.mono (by decide)) (by rfl) O.m_Ldraw O.F_Ldraw.kp O.b_Ldraw .nil pass0 (pa_cons (pv 1) (pa_cons (pe_op op_pow pe_int pe_int) pa_nil)))) pa_nil)))) (pe_call (ok_Ldraw T O) (hr.mono (by decide)) (by rfl) O.m_Ldraw O.F_Ldraw.kp O.b_Ldraw .nil pass0 (pa_cons (pv 1) (pa_cons pe_int pa_nil))) (fun _ _ => rfl)))
  (pss_cons (ps_set (i := 7) sc_law.nd rfl (Or.inl rfl) (pe_callB (r := Jv.rMin2) (call_min2 rfl) (by rfl) O.z_min (by decide +kernel) (pa_cons (pv 7) (pa_cons (pe_ix (r := rIx K) ix_seq (pv 2) pe_int (fun _ _ => rfl)) pa_nil))))
  (pss_cons (ps_set (i := 8) sc_law.nd rfl (Or.inl rfl) (pe_call (E := E0) (ok_least_told T O) (hr.mono (by decide)) (by rfl) O.m_least_told O.F_least_told.kp O.b_least_told .nil passL (pa_cons (pv 7) pa_nil)))
  (pss_one (ps_if (PW.pt (pw_or (pt_not (pt_val (pe_call (ok_Lis_number T O) (hr.mono (by decide)) (by rfl) O.m_Lis_number O.F_Lis_number.kp O.b_Lis_number .nil pass0 (pa_cons (pv 8) pa_nil)))) (pw_or1 (pt_cmpR op_ne (pv 8) (pe_call (ok_Lfirst_enough T O) (hr.mono (by decide)) (by rfl) O.m_Lfirst_enough O.F_Lfirst_enough.kp O.b_Lfirst_enough .nil pass0 (pa_cons (pv 2) (pa_cons (pv 7) pa_nil))) (nomark _))))) (pss_one (ps_ret pe_bl)) pss_nil))))))))))))
  (pss_cons (ps_if (PW.pt (pw_or (pt_cmpR op_ne (pe_call (E := E0) (ok_told_count T O) (hr.mono (by decide)) (by rfl) O.m_told_count O.F_told_count.kp O.b_told_count .nil passL (pa_cons pe_int pa_nil)) pe_int (nomark _)) (pw_or (pt_cmpR op_ne (pe_call (E := E0) (ok_asked_count T O) (hr.mono (by decide)) (by rfl) O.m_asked_count O.F_asked_count.kp O.b_asked_count .nil passL (pa_cons pe_int pa_nil)) pe_int (nomark _)) (pw_or (pt_cmpR op_ne (pe_call (E := E0) (ok_asked_count T O) (hr.mono (by decide)) (by rfl) O.m_asked_count O.F_asked_count.kp O.b_asked_count .nil passL (pa_cons pe_int pa_nil)) pe_int (nomark _)) (pw_or (pt_cmpR op_ne (pe_call (E := E0) (ok_least_told T O) (hr.mono (by decide)) (by rfl) O.m_least_told O.F_least_told.kp O.b_least_told .nil passL (pa_cons pe_int pa_nil)) pe_int (nomark _)) (pw_or1 (pt_cmpR op_ne (pe_call (E := E0) (ok_least_told T O) (hr.mono (by decide)) (by rfl) O.m_least_told O.F_least_told.kp O.b_least_told .nil passL (pa_cons (pe_ix (r := rIx K) ix_seq (pv 2) pe_int (fun _ _ => rfl)) pa_nil)) pe_int (nomark _)))))))) (pss_one (ps_ret pe_bl)) pss_nil)
  (pss_cons (ps_if (PW.pt (pw_or (pt_cmpR op_ne (pe_call (E := E0) (ok_told_count T O) (hr.mono (by decide)) (by rfl) O.m_told_count O.F_told_count.kp O.b_told_count .nil passL (pa_cons pe_int pa_nil)) (pe_ix (r := rIx K) ix_seq (pv 2) pe_int (fun _ _ => rfl)) (nomark _)) (pw_or1 (pt_cmpR op_ne (pe_call (E := E0) (ok_asked_count T O) (hr.mono (by decide)) (by rfl) O.m_asked_count O.F_asked_count.kp O.b_asked_count .nil passL (pa_cons pe_int pa_nil)) (pe_ix (r := rIx K) ix_seq (pv 2) pe_int (fun _ _ => rfl)) (nomark _))))) (pss_one (ps_ret pe_bl)) pss_nil)
  (pss_cons (ps_set (i := 9) sc_law.nd rfl (Or.inr rfl) (pe_call (ok_Lodd_ladder T O) (hr.mono (by decide)) (by rfl) O.m_Lodd_ladder O.F_Lodd_ladder.kp O.b_Lodd_ladder .nil pass0 (pa_cons (pv 1) (pa_cons pe_int pa_nil))))
  (pss_cons (ps_if (pt_cmpR (r := rNeD K) (op_neD hr.units) (LamX.pe_lamcall (T := TLof Pt) (TT := TTref T.C_BadLadder T.C_BadKinds) (k := 4) (by rfl) O.m_Lrefused O.F_Lrefused.kp lkR hcR bR sc_Lrefused rfl (Or.inl rfl) (refused_gives T O Z) TB rfl (List.mem_singleton.mpr rfl) (fun p hp _ => by cases (List.mem_singleton.mp hp); rfl) (hr.mono (by decide)) (LamX.lamS_by (sc := defScope s_law) (by decide +kernel)) rfl (fun _ _ _ _ _ => rfl) (fun A outer s H E f c1 hr => (pe_callS (ok_told_count T O) (hr.mono (by decide)) (by rfl) O.m_told_count O.F_told_count.kp O.b_told_count (fun σ => passAt (takes_of rfl rfl rfl rfl) σ) (pa_cons (pv 9) pa_nil)))) (pe_tup (pa_cons pe_str (pa_cons pe_bl pa_nil))) (nomark _)) (pss_one (ps_ret pe_bl)) pss_nil)
  (pss_cons (ps_if (pt_cmpR (r := rNeD K) (op_neD hr.units) (LamX.pe_lamcall (T := TLof Pt) (TT := TTref T.C_BadLadder T.C_BadKinds) (k := 4) (by rfl) O.m_Lrefused O.F_Lrefused.kp lkR hcR bR sc_Lrefused rfl (Or.inl rfl) (refused_gives T O Z) TB rfl (List.mem_singleton.mpr rfl) (fun p hp _ => by cases (List.mem_singleton.mp hp); rfl) (hr.mono (by decide)) (LamX.lamS_by (sc := defScope s_law) (by decide +kernel)) rfl (fun _ _ _ _ _ => rfl) (fun A outer s H E f c1 hr => (pe_callS (ok_asked_count T O) (hr.mono (by decide)) (by rfl) O.m_asked_count O.F_asked_count.kp O.b_asked_count (fun σ => passAt (takes_of rfl rfl rfl rfl) σ) (pa_cons (pv 9) pa_nil)))) (pe_tup (pa_cons pe_str (pa_cons pe_bl pa_nil))) (nomark _)) (pss_one (ps_ret pe_bl)) pss_nil)
  (pss_cons (ps_set (i := 10) sc_law.nd rfl (Or.inr rfl) (pe_call (ok_Lodd_kinds T O) (hr.mono (by decide)) (by rfl) O.m_Lodd_kinds O.F_Lodd_kinds.kp O.b_Lodd_kinds .nil pass0 (pa_cons (pv 1) (pa_cons (pe_ix (r := rIx K) ix_seq (pv 2) pe_int (fun _ _ => rfl)) pa_nil))))
  (pss_one (ps_ret (pe_cmpR (r := rEqD K) (op_eqD hr.units) (LamX.pe_lamcall (T := TLof Pt) (TT := TTref T.C_BadLadder T.C_BadKinds) (k := 4) (by rfl) O.m_Lrefused O.F_Lrefused.kp lkR hcR bR sc_Lrefused rfl (Or.inl rfl) (refused_gives T O Z) TB rfl (List.mem_singleton.mpr rfl) (fun p hp _ => by cases (List.mem_singleton.mp hp); rfl) (hr.mono (by decide)) (LamX.lamS_by (sc := defScope s_law) (by decide +kernel)) rfl (fun _ _ _ _ _ => rfl) (fun A outer s H E f c1 hr => (pe_callS (ok_least_told T O) (hr.mono (by decide)) (by rfl) O.m_least_told O.F_least_told.kp O.b_least_told (fun σ => passAt (takes_of rfl rfl rfl rfl) σ) (pa_cons (pv 10) pa_nil)))) (pe_tup (pa_cons pe_str (pa_cons pe_bl pa_nil))) (nomark _))))))))))))), ?_⟩
  walk_at "r"
  refine ⟨sc, ns, rfl, hS, few, fun h hl H0 s0 nh hh => ?_⟩
  walk_at "r"
  refine ⟨rfl, fun D H1 s1 nD eD => ?_⟩
  have hh1 := hh.same s1
  obtain ⟨nDh, nDl⟩ := hh.ne2 nD
  have tb1 : LamX.Tabs (TLof Pt) H1 := fun p hp => by
    cases List.mem_singleton.mp hp
    exact LamX.TabS.nil (s1 _ _ (s0 _ _ hP))
  walk_at "r"
  refine ⟨4, rfl, by decide, by decide, ?_⟩
  have at_n : ∀ m : Nat, m ≤ 200 → atI (rowV 201) (m : Int) = some (.int (tc m)) := fun m hm => Jv.at_i (by omega) (by rw [Int.toNat_natCast]; exact rowV_at (by omega))
  refine for_range (lo := 0) (n := ((4 : Int)).toNat) (fun i σ H' => ∃ y3 y4 y5 y6 y7 y8, σ = [some (.ref sc), some (.ref h), some (.ref D), y3, y4, y5, y6, y7, y8, none, none] ∧ Jv.Hand H' h hl ∧ Jv.Kp h H1 H') ⟨_, _, _, _, _, _, rfl, hh1, Jv.Kp.refl⟩ ?_ ?_
  · rintro i σ H2 hi ⟨y3, y4, y5, y6, y7, y8, rfl, hh2, kp2⟩
    walk_at "r"
    refine ⟨fun σ H' => ∃ n : Nat, n ≤ 200 ∧ σ = [some (.ref sc), some (.ref h), some (.ref D), some (.int (0 + (i : Nat))), some (.int n), y5, y6, y7, y8, none, none] ∧ Jv.Hand H' h hl ∧ Jv.Kp h H1 H', ?_, ?_⟩
    · walk_at "r"
      split
      · walk_at "r"
        refine ⟨h, hl, 201, rfl, hh2, ⟨by decide, Jv.log_small (by decide) (by decide)⟩, fun z H3 z0 z1 kp3 hh3 => ?_⟩
        obtain ⟨n, rfl⟩ : ∃ n : Nat, z = n := ⟨z.toNat, by omega⟩
        walk_at "r"
        exact ⟨n, by omega, rfl, hh3, kp2.trans kp3⟩
      · walk_at "r"
        refine ⟨h, hl, 13, rfl, hh2, ⟨by decide, Jv.log_small (by decide) (by decide)⟩, fun z H3 z0 z1 kp3 hh3 => ?_⟩
        obtain ⟨n, rfl⟩ : ∃ n : Nat, z = n := ⟨z.toNat, by omega⟩
        walk_at "r"
        exact ⟨n, by omega, rfl, hh3, kp2.trans kp3⟩
    · rintro σ H3 ⟨n, hn, rfl, hh3, kp3⟩
      have eD3 := kp3 D _ nDh eD
      have skD : Jv.Sk K H3 (.ref D) (rowV 201) := ⟨D, rfl, .inl (Jv.sqL_at eD3)⟩
      walk_at "r"
      refine ⟨_, _, rfl, .int _, .inl ⟨n, rfl, hn, fun H4 s4 => ?_⟩⟩
      walk_at "r"
      refine ⟨_, rfl, ?_⟩
      walk_at "r"
      refine (skD.same s4).ix (at_n n hn) ?_
      walk_at "r"
      rw [if_neg (by simp)]
      walk_at "r"
      refine ⟨_, _, rfl, .int _, .inl ⟨n, rfl, hn, fun H5 s5 => ?_⟩⟩
      walk_at "r"
      have hh5 := (hh3.same s4).same s5
      have kp5 := kp3.trans (Jv.Kp.same (s4.trans s5))
      refine ⟨fun σ H' => σ = [some (.ref sc), some (.ref h), some (.ref D), some (.int (0 + (i : Nat))), some (.int n), some (.int (tc n)), some (.int (askC n)), y7, y8, none, none] ∧ Jv.Hand H' h hl ∧ Jv.Kp h H1 H', ?_, ?_⟩
      · walk_at "r"
        refine ⟨_, rfl, ?_⟩
        walk_at "r"
        refine Jv.r_dec (fun h0 => ?_) (fun h0 => ?_)
        · walk_at "r"
          refine ((skD.same s4).same s5).ix (v := .int (tc (n - 1))) (by rw [show ((n : Int) - 1) = ((n - 1 : Nat) : Int) by omega]; exact at_n _ (by omega)) ?_
          walk_at "r"
          have e : askC n = tc (n - 1) := by unfold askC; rw [if_pos (by omega)]
          rw [e, if_neg (by simp)]
          walk_at "r"
          exact ⟨rfl, hh5, kp5⟩
        · walk_at "r"
          have e : askC n = 1 := by unfold askC; rw [if_neg (by omega)]
          rw [e, if_neg (by simp)]
          walk_at "r"
          exact ⟨rfl, hh5, kp5⟩
      rintro σ H5 ⟨rfl, hh5, kp5⟩
      clear hh3 kp3 skD eD3
      have eD5 := kp5 D _ nDh eD
      have skD : Jv.Sk K H5 (.ref D) (rowV 201) := ⟨D, rfl, .inl (Jv.sqL_at eD5)⟩
      walk_at "r"
      refine ⟨fun σ H' => σ = [some (.ref sc), some (.ref h), some (.ref D), some (.int (0 + (i : Nat))), some (.int n), some (.int (tc n)), some (.int (askC n)), y7, y8, none, none] ∧ Jv.Hand H' h hl ∧ Jv.Kp h H1 H', ?_, ?_⟩
      · walk_at "r"
        refine Jv.r_dec (fun h0 => ?_) (fun h0 => ?_)
        · have hn1 : 2 ≤ tc n := by
            have h1 := (tc_step (n - 1)).2
            have h2 := (tc_step (n - 1)).1
            rw [show n - 1 + 1 = n by omega] at h1
            omega
          have hn2 := tc_le hn
          walk_at "r"
          refine skD.ix (at_n n hn) ?_
          walk_at "r"
          refine ⟨_, _, rfl, .int _, .inl ⟨tc n, rfl, (tc_step n).1, tc_le hn, fun m H6 lm s6 => ?_⟩⟩
          obtain rfl : m = n := Least.uniq lm (Least.at hn)
          walk_at "r"
          rw [if_neg (by simp)]
          walk_at "r"
          refine (skD.same s6).ix (at_n m hn) ?_
          walk_at "r"
          refine ⟨_, _, rfl, .int _, .inl ⟨tc m - 1, rfl, by omega, by omega, fun m1 H7 lm1 s7 => ?_⟩⟩
          walk_at "r"
          refine ((skD.same s6).same s7).ix (at_n m hn) ?_
          walk_at "r"
          refine ⟨D, _, rfl, Jv.sqL_at ((s6.trans s7) _ _ eD5), by omega, fun m2 lm2 => ?_⟩
          obtain rfl : m2 = m1 := Least.uniq lm2 lm1
          walk_at "r"
          rw [if_neg (by simp)]
          walk_at "r"
          exact ⟨rfl, (hh5.same s6).same s7, kp5.trans (Jv.Kp.same (s6.trans s7))⟩
        · walk_at "r"
          exact ⟨rfl, hh5, kp5⟩
      clear hh5 kp5 eD5 skD
      rintro σ H5 ⟨rfl, hh5, kp5⟩
      have eD5 := kp5 D _ nDh eD
      have skD : Jv.Sk K H5 (.ref D) (rowV 201) := ⟨D, rfl, .inl (Jv.sqL_at eD5)⟩
      walk_at "r"
      refine ⟨fun σ H' => ∃ k : Int, 1 ≤ k ∧ σ = [some (.ref sc), some (.ref h), some (.ref D), some (.int (0 + (i : Nat))), some (.int n), some (.int (tc n)), some (.int (askC n)), some (.int k), y8, none, none] ∧ Jv.Hand H' h hl ∧ Jv.Kp h H1 H', ?_, ?_⟩
      · walk_at "r"
        refine skD.ix (at_n n hn) ?_
        walk_at "r"
        refine skD.ix (at_n n hn) ?_
        walk_at "r"
        refine ⟨h, hl, 1000, rfl, hh5, ⟨by decide, Jv.log_small (by decide) (by decide)⟩, fun z H6 z0 z1 kp6 hh6 => ?_⟩
        walk_at "r"
        refine ⟨h, hl, _, rfl, hh6, ⟨by decide +kernel, by decide +kernel⟩, fun z' H7 z0' z1' kp7 hh7 => ?_⟩
        walk_at "r"
        intro L nL
        walk_at "r"
        obtain ⟨nLh, nLl⟩ := hh7.ne2 nL
        have hh8 : Jv.Hand (upd H7 L (.lst [.int (tc n + 1), .int (tc n + z), .int (1 + z')])) h hl := hh7.upd nLh nLl
        refine ⟨h, hl, 3, rfl, hh8, ⟨by decide, Jv.log_small (by decide) (by decide)⟩, fun z3 H9 a0 a1 kp9 hh9 => ?_⟩
        walk_at "r"
        have eL := kp9 L _ nLh upd_same
        have t1 := (tc_step n).1
        have kp8 := ((kp5.trans kp6).trans kp7).trans ((Jv.Kp.new nL).trans kp9)
        have h3 : z3 = 0 ∨ z3 = 1 ∨ z3 = 2 := by omega
        rcases h3 with rfl | rfl | rfl
        · refine Jv.r_ixL (Jv.sqL_at eL) (Jv.at_i (by decide) rfl) ?_
          walk_at "r"
          exact ⟨_, by omega, rfl, hh9, kp8⟩
        · refine Jv.r_ixL (Jv.sqL_at eL) (Jv.at_i (by decide) rfl) ?_
          walk_at "r"
          exact ⟨_, by omega, rfl, hh9, kp8⟩
        · refine Jv.r_ixL (Jv.sqL_at eL) (Jv.at_i (by decide) rfl) ?_
          walk_at "r"
          exact ⟨_, by omega, rfl, hh9, kp8⟩
      clear hh5 kp5 eD5 skD
      rintro σ H5 ⟨k, k1, rfl, hh5, kp5⟩
      have eD5 := kp5 D _ nDh eD
      have skD : Jv.Sk K H5 (.ref D) (rowV 201) := ⟨D, rfl, .inl (Jv.sqL_at eD5)⟩
      walk_at "r"
      refine skD.ix (at_n 200 (by decide)) ?_
      walk_at "r"
      have g0 : 1 ≤ tc 200 := (tc_step 200).1
      obtain ⟨kk, ek, g1, g2⟩ : ∃ kk : Int, (if tc 200 < k then tc 200 else k) = kk ∧ 1 ≤ kk ∧ kk ≤ tc 200 := ⟨_, rfl, by split <;> omega, by split <;> omega⟩
      rw [ek]
      refine ⟨_, _, rfl, .int _, .inl ⟨kk, rfl, g1, g2, fun m H6 lm s6 => ?_⟩⟩
      walk_at "r"
      refine ⟨_, rfl, ?_⟩
      walk_at "r"
      refine ⟨D, _, rfl, Jv.sqL_at (s6 _ _ eD5), g2, fun m2 lm2 => ?_⟩
      obtain rfl : m2 = m := Least.uniq lm2 lm
      walk_at "r"
      rw [if_neg (by simp)]
      walk_at "r"
      exact ⟨_, _, _, _, _, _, rfl, hh5.same s6, kp5.trans (Jv.Kp.same s6)⟩
  · rintro σ H2 ⟨y3, y4, y5, y6, y7, y8, rfl, hh2, kp2⟩
    have eD2 := kp2 D _ nDh eD
    have skD : Jv.Sk K H2 (.ref D) (rowV 201) := ⟨D, rfl, .inl (Jv.sqL_at eD2)⟩
    have tb2 := Jv.tabs_kp tb1 hh1 kp2
    walk_at "r"
    refine ⟨_, _, rfl, .int _, .inl ⟨0, rfl, by decide, fun H3 s3 => ?_⟩⟩
    walk_at "r"
    refine ⟨_, _, rfl, .int _, .inl ⟨0, rfl, by decide, fun H4 s4 => ?_⟩⟩
    walk_at "r"
    refine ⟨_, _, rfl, .int _, .inl ⟨1, rfl, by decide, fun H5 s5 => ?_⟩⟩
    walk_at "r"
    refine ⟨_, _, rfl, .int _, .inl ⟨1, rfl, by decide, by decide +kernel, fun m H6 lm s6 => ?_⟩⟩
    obtain rfl : m = 0 := Least.uniq lm (Least.at (n := 0) (by decide))
    walk_at "r"
    have s26 := ((s3.trans s4).trans s5).trans s6
    refine (skD.same s26).ix (at_n 200 (by decide)) ?_
    walk_at "r"
    refine ⟨_, _, rfl, .int _, .inl ⟨tc 200, rfl, (tc_step 200).1, Int.le_refl _, fun m H7 lm s7 => ?_⟩⟩
    obtain rfl : m = 200 := Least.uniq lm (Least.at (n := 200) (by decide))
    walk_at "r"
    refine ⟨_, _, rfl, .int _, .inl ⟨200, rfl, by decide, fun H8 s8 => ?_⟩⟩
    walk_at "r"
    have s28 := (s26.trans s7).trans s8
    refine (skD.same s28).ix (at_n 200 (by decide)) ?_
    walk_at "r"
    refine ⟨_, _, rfl, .int _, .inl ⟨200, rfl, by decide, fun H9 s9 => ?_⟩⟩
    walk_at "r"
    have s29 := s28.trans s9
    refine (skD.same s29).ix (at_n 199 (by decide)) ?_
    walk_at "r"
    have hh9 := hh2.same s29
    refine ⟨h, hl, rfl, hh9, fun ov od H10 kp10 hh10 dvo bad => ?_⟩
    have eD10 := kp10 D _ nDh (s29 _ _ eD2)
    have tb10 := Jv.tabs_kp (LamX.Tabs.ext tb2 s29) hh9 kp10
    walk_at "r"
    refine ⟨tb10, fun H11 e11 tb11 => ?_⟩
    intro R hR
    walk_at "r"
    refine ⟨_, _, rfl, dvo.ext e11, .inr ⟨bad, fun H12 s12 => ?_⟩⟩
    refine .inl ⟨rfl, rfl, fun t nt => ?_⟩
    walk_at "r"
    intro p2 np2
    have q1 : Jv.Dv K (upd (upd H12 t (.tup [.str "ladder", .bl true])) p2 (.tup [.str "ladder", .bl true])) (.ref t) (.tuple [.str "ladder", .bool true]) := .tup (Jv.sqT_at (Jv.same_new np2 _ _ upd_same)) (.cons (.str _) (.cons (.bl _) .nil))
    have q2 : Jv.Dv K (upd (upd H12 t (.tup [.str "ladder", .bl true])) p2 (.tup [.str "ladder", .bl true])) (.ref p2) (.tuple [.str "ladder", .bool true]) := .tup (Jv.sqT_at upd_same) (.cons (.str _) (.cons (.bl _) .nil))
    refine ⟨_, _, q1.dp, q2.dp, by decide +kernel, by decide +kernel, ?_⟩
    walk_at "r"
    generalize hZ : upd (upd H12 t (HO.tup [V.str "ladder", V.bl true])) p2 (HO.tup [V.str "ladder", V.bl true]) = H13
    have s13 : Same H12 H13 := by rw [← hZ]; exact (Jv.same_new nt).trans (Jv.same_new np2)
    have tb13 := LamX.Tabs.ext tb11 (s12.trans s13)
    have x13 : LamX.ExtN H10 H13 := e11.trans (LamX.ExtN.of (s12.trans s13))
    have dv13 := dvo.ext x13
    clear q1 q2 hZ nt np2
    refine ⟨tb13, fun H14 e14 tb14 => ?_⟩
    intro R hR
    walk_at "r"
    refine ⟨_, _, rfl, dv13.ext e14, .inr ⟨bad, fun H15 s15 => ?_⟩⟩
    refine .inl ⟨rfl, rfl, fun t nt => ?_⟩
    walk_at "r"
    intro p2 np2
    have q1 : Jv.Dv K (upd (upd H15 t (.tup [.str "ladder", .bl true])) p2 (.tup [.str "ladder", .bl true])) (.ref t) (.tuple [.str "ladder", .bool true]) := .tup (Jv.sqT_at (Jv.same_new np2 _ _ upd_same)) (.cons (.str _) (.cons (.bl _) .nil))
    have q2 : Jv.Dv K (upd (upd H15 t (.tup [.str "ladder", .bl true])) p2 (.tup [.str "ladder", .bl true])) (.ref p2) (.tuple [.str "ladder", .bool true]) := .tup (Jv.sqT_at upd_same) (.cons (.str _) (.cons (.bl _) .nil))
    refine ⟨_, _, q1.dp, q2.dp, by decide +kernel, by decide +kernel, ?_⟩
    walk_at "r"
    generalize hZ : upd (upd H15 t (HO.tup [V.str "ladder", V.bl true])) p2 (HO.tup [V.str "ladder", V.bl true]) = H16
    have s16 : Same H15 H16 := by rw [← hZ]; exact (Jv.same_new nt).trans (Jv.same_new np2)
    have tb16 := LamX.Tabs.ext tb14 (s15.trans s16)
    have x16 : LamX.ExtN H10 H16 := x13.trans (e14.trans (LamX.ExtN.of (s15.trans s16)))
    clear q1 q2 hZ nt np2
    have hh16 := hh10.ext x16
    have eD16 := x16 _ _ eD10 (fun _ z => by cases z)
    have skD16 : Jv.Sk K H16 (.ref D) (rowV 201) := ⟨D, rfl, .inl (Jv.sqL_at eD16)⟩
    refine skD16.ix (at_n 200 (by decide)) ?_
    walk_at "r"
    refine ⟨h, hl, rfl, hh16, fun wv wd H17 kp17 hh17 dvw badw => ?_⟩
    have tb17 := Jv.tabs_kp tb16 hh16 kp17
    walk_at "r"
    refine ⟨tb17, fun H18 e18 tb18 => ?_⟩
    intro R hR
    walk_at "r"
    refine ⟨_, _, rfl, dvw.ext e18, .inr ⟨badw, fun H19 s19 => ?_⟩⟩
    refine .inr ⟨rfl, rfl, fun t nt => ?_⟩
    walk_at "r"
    intro p2 np2
    have q1 : Jv.Dv K (upd (upd H19 t (.tup [.str "kinds", .bl true])) p2 (.tup [.str "kinds", .bl true])) (.ref t) (.tuple [.str "kinds", .bool true]) := .tup (Jv.sqT_at (Jv.same_new np2 _ _ upd_same)) (.cons (.str _) (.cons (.bl _) .nil))
    have q2 : Jv.Dv K (upd (upd H19 t (.tup [.str "kinds", .bl true])) p2 (.tup [.str "kinds", .bl true])) (.ref p2) (.tuple [.str "kinds", .bool true]) := .tup (Jv.sqT_at upd_same) (.cons (.str _) (.cons (.bl _) .nil))
    refine ⟨_, _, q1.dp, q2.dp, by decide +kernel, by decide +kernel, ?_⟩
    walk_at "r"
    exact fin _
end
end K34

namespace K34
open PySem PySem.Spec PyProof.Rows L2
theorem all_mk {l : PySem.W.OpenLaw} {w : World} {fa : Addr} {K : PySem.W.Frag} {h : Heap} {mg : Str → Option Value} (X : K.In h) (G : h.Ns mainGlobals mg) (hfa : mg "law" = some (.ref fa)) (own : LamX.OwnTab K fa h)
  {cc_law P_law : Addr} {cdd_law : Option Addr} {cvs_law : Array Value} {csl_law : Array (Option Value)} {cf_law : Str} {cft_law cgt_law ctt_law : Tok} {cg_law cx_law : Int} {ci_law : Bool}
  {C_CallError : Addr}
  {C_BadLadder : Addr}
  {C_BadKinds : Addr}
  {f_is_whole : Addr} {od_is_whole an_is_whole : Option Addr} {sl_is_whole : Array (Option Value)} {oc_is_whole kV_is_whole dc_is_whole pm_is_whole cd_is_whole ct_is_whole : Value}
  {q_is_whole : Addr} {qc_is_whole : Value} {qd_is_whole : Option Addr} {qs_is_whole : Array (Option Value)} {qn_is_whole : Nat}
  {f_check_ladder : Addr} {od_check_ladder an_check_ladder : Option Addr} {sl_check_ladder : Array (Option Value)} {oc_check_ladder kV_check_ladder dc_check_ladder pm_check_ladder cd_check_ladder ct_check_ladder : Value}
  {q_check_ladder : Addr} {qc_check_ladder : Value} {qd_check_ladder : Option Addr} {qs_check_ladder : Array (Option Value)} {qn_check_ladder : Nat}
  {qt0_check_ladder : Tok}
  {f_told_count : Addr} {od_told_count an_told_count : Option Addr} {sl_told_count : Array (Option Value)} {oc_told_count kV_told_count dc_told_count pm_told_count cd_told_count ct_told_count : Value}
  {f_asked_count : Addr} {od_asked_count an_asked_count : Option Addr} {sl_asked_count : Array (Option Value)} {oc_asked_count kV_asked_count dc_asked_count pm_asked_count cd_asked_count ct_asked_count : Value}
  {f_least_told : Addr} {od_least_told an_least_told : Option Addr} {sl_least_told : Array (Option Value)} {oc_least_told kV_least_told dc_least_told pm_least_told cd_least_told ct_least_told : Value}
  {f_Lmix : Addr} {od_Lmix an_Lmix : Option Addr} {sl_Lmix : Array (Option Value)} {oc_Lmix kV_Lmix dc_Lmix pm_Lmix cd_Lmix ct_Lmix : Value}
  {f_Lhand : Addr} {od_Lhand an_Lhand : Option Addr} {sl_Lhand : Array (Option Value)} {oc_Lhand kV_Lhand dc_Lhand pm_Lhand cd_Lhand ct_Lhand : Value}
  {f_Ldraw : Addr} {od_Ldraw an_Ldraw : Option Addr} {sl_Ldraw : Array (Option Value)} {oc_Ldraw kV_Ldraw dc_Ldraw pm_Ldraw cd_Ldraw ct_Ldraw : Value}
  {f_Lis_number : Addr} {od_Lis_number an_Lis_number : Option Addr} {sl_Lis_number : Array (Option Value)} {oc_Lis_number kV_Lis_number dc_Lis_number pm_Lis_number cd_Lis_number ct_Lis_number : Value}
  {f_Lodd_ladder : Addr} {od_Lodd_ladder an_Lodd_ladder : Option Addr} {sl_Lodd_ladder : Array (Option Value)} {oc_Lodd_ladder kV_Lodd_ladder dc_Lodd_ladder pm_Lodd_ladder cd_Lodd_ladder ct_Lodd_ladder : Value}
  {f_Lodd_kinds : Addr} {od_Lodd_kinds an_Lodd_kinds : Option Addr} {sl_Lodd_kinds : Array (Option Value)} {oc_Lodd_kinds kV_Lodd_kinds dc_Lodd_kinds pm_Lodd_kinds cd_Lodd_kinds ct_Lodd_kinds : Value}
  {f_Lrow_of_counts : Addr} {od_Lrow_of_counts an_Lrow_of_counts : Option Addr} {sl_Lrow_of_counts : Array (Option Value)} {oc_Lrow_of_counts kV_Lrow_of_counts dc_Lrow_of_counts pm_Lrow_of_counts cd_Lrow_of_counts ct_Lrow_of_counts : Value}
  {f_Lfirst_enough : Addr} {od_Lfirst_enough an_Lfirst_enough : Option Addr} {sl_Lfirst_enough : Array (Option Value)} {oc_Lfirst_enough kV_Lfirst_enough dc_Lfirst_enough pm_Lfirst_enough cd_Lfirst_enough ct_Lfirst_enough : Value}
  {f_Lrefused : Addr} {od_Lrefused an_Lrefused : Option Addr} {sl_Lrefused : Array (Option Value)} {oc_Lrefused kV_Lrefused dc_Lrefused pm_Lrefused cd_Lrefused ct_Lrefused : Value}
  {f_law : Addr} {od_law an_law : Option Addr} {sl_law : Array (Option Value)} {oc_law kV_law dc_law pm_law ct_law : Value}
  {t_LADDER_MOST : Tok}
  {t_COUNT_LADDER_MOST : Tok}
  (a_CallError : PySem.W.nsIn K mainGlobals "CallError" = some (some (.ref C_CallError)))
  (a_BadLadder : PySem.W.nsIn K mainGlobals "BadLadder" = some (some (.ref C_BadLadder)))
  (a_BadKinds : PySem.W.nsIn K mainGlobals "BadKinds" = some (some (.ref C_BadKinds)))
  (a_is_whole : PySem.W.nsIn K mainGlobals "is_whole" = some (some (.ref f_is_whole)))
  (l_is_whole : K.lookup f_is_whole = some ⟨oc_is_whole, od_is_whole, .func (PySem.W.fnOf "is_whole" "is_whole" (defArgs s_is_whole) (defBody s_is_whole) (defScope s_is_whole) (.ref q_is_whole) kV_is_whole dc_is_whole pm_is_whole an_is_whole cd_is_whole ct_is_whole), sl_is_whole⟩)
  (c_is_whole : PySem.W.codeIn K cd_is_whole "is_whole" = true)
  (k_is_whole : PySem.W.keepIn K (.ref f_is_whole) = true)
  (t_is_whole : K.lookup q_is_whole = some ⟨qc_is_whole, qd_is_whole, .seq #[Value.none, Value.none] qn_is_whole, qs_is_whole⟩)
  (a_check_ladder : PySem.W.nsIn K mainGlobals "check_ladder" = some (some (.ref f_check_ladder)))
  (l_check_ladder : K.lookup f_check_ladder = some ⟨oc_check_ladder, od_check_ladder, .func (PySem.W.fnOf "check_ladder" "check_ladder" (defArgs s_check_ladder) (defBody s_check_ladder) (defScope s_check_ladder) (.ref q_check_ladder) kV_check_ladder dc_check_ladder pm_check_ladder an_check_ladder cd_check_ladder ct_check_ladder), sl_check_ladder⟩)
  (c_check_ladder : PySem.W.codeIn K cd_check_ladder "check_ladder" = true)
  (k_check_ladder : PySem.W.keepIn K (.ref f_check_ladder) = true)
  (t_check_ladder : K.lookup q_check_ladder = some ⟨qc_check_ladder, qd_check_ladder, .seq #[Value.int (6) qt0_check_ladder] qn_check_ladder, qs_check_ladder⟩)
  (a_told_count : PySem.W.nsIn K mainGlobals "told_count" = some (some (.ref f_told_count)))
  (l_told_count : K.lookup f_told_count = some ⟨oc_told_count, od_told_count, .func (PySem.W.fnOf "told_count" "told_count" (defArgs s_told_count) (defBody s_told_count) (defScope s_told_count) .none kV_told_count dc_told_count pm_told_count an_told_count cd_told_count ct_told_count), sl_told_count⟩)
  (c_told_count : PySem.W.codeIn K cd_told_count "told_count" = true)
  (k_told_count : PySem.W.keepIn K (.ref f_told_count) = true)
  (a_asked_count : PySem.W.nsIn K mainGlobals "asked_count" = some (some (.ref f_asked_count)))
  (l_asked_count : K.lookup f_asked_count = some ⟨oc_asked_count, od_asked_count, .func (PySem.W.fnOf "asked_count" "asked_count" (defArgs s_asked_count) (defBody s_asked_count) (defScope s_asked_count) .none kV_asked_count dc_asked_count pm_asked_count an_asked_count cd_asked_count ct_asked_count), sl_asked_count⟩)
  (c_asked_count : PySem.W.codeIn K cd_asked_count "asked_count" = true)
  (k_asked_count : PySem.W.keepIn K (.ref f_asked_count) = true)
  (a_least_told : PySem.W.nsIn K mainGlobals "least_told" = some (some (.ref f_least_told)))
  (l_least_told : K.lookup f_least_told = some ⟨oc_least_told, od_least_told, .func (PySem.W.fnOf "least_told" "least_told" (defArgs s_least_told) (defBody s_least_told) (defScope s_least_told) .none kV_least_told dc_least_told pm_least_told an_least_told cd_least_told ct_least_told), sl_least_told⟩)
  (c_least_told : PySem.W.codeIn K cd_least_told "least_told" = true)
  (k_least_told : PySem.W.keepIn K (.ref f_least_told) = true)
  (a_Lmix : PySem.W.nsIn K mainGlobals "_law_mix" = some (some (.ref f_Lmix)))
  (l_Lmix : K.lookup f_Lmix = some ⟨oc_Lmix, od_Lmix, .func (PySem.W.fnOf "_law_mix" "_law_mix" (defArgs s_Lmix) (defBody s_Lmix) (defScope s_Lmix) .none kV_Lmix dc_Lmix pm_Lmix an_Lmix cd_Lmix ct_Lmix), sl_Lmix⟩)
  (c_Lmix : PySem.W.codeIn K cd_Lmix "_law_mix" = true)
  (k_Lmix : PySem.W.keepIn K (.ref f_Lmix) = true)
  (a_Lhand : PySem.W.nsIn K mainGlobals "_law_hand" = some (some (.ref f_Lhand)))
  (l_Lhand : K.lookup f_Lhand = some ⟨oc_Lhand, od_Lhand, .func (PySem.W.fnOf "_law_hand" "_law_hand" (defArgs s_Lhand) (defBody s_Lhand) (defScope s_Lhand) .none kV_Lhand dc_Lhand pm_Lhand an_Lhand cd_Lhand ct_Lhand), sl_Lhand⟩)
  (c_Lhand : PySem.W.codeIn K cd_Lhand "_law_hand" = true)
  (k_Lhand : PySem.W.keepIn K (.ref f_Lhand) = true)
  (a_Ldraw : PySem.W.nsIn K mainGlobals "_law_draw" = some (some (.ref f_Ldraw)))
  (l_Ldraw : K.lookup f_Ldraw = some ⟨oc_Ldraw, od_Ldraw, .func (PySem.W.fnOf "_law_draw" "_law_draw" (defArgs s_Ldraw) (defBody s_Ldraw) (defScope s_Ldraw) .none kV_Ldraw dc_Ldraw pm_Ldraw an_Ldraw cd_Ldraw ct_Ldraw), sl_Ldraw⟩)
  (c_Ldraw : PySem.W.codeIn K cd_Ldraw "_law_draw" = true)
  (k_Ldraw : PySem.W.keepIn K (.ref f_Ldraw) = true)
  (a_Lis_number : PySem.W.nsIn K mainGlobals "_law_is_number" = some (some (.ref f_Lis_number)))
  (l_Lis_number : K.lookup f_Lis_number = some ⟨oc_Lis_number, od_Lis_number, .func (PySem.W.fnOf "_law_is_number" "_law_is_number" (defArgs s_Lis_number) (defBody s_Lis_number) (defScope s_Lis_number) .none kV_Lis_number dc_Lis_number pm_Lis_number an_Lis_number cd_Lis_number ct_Lis_number), sl_Lis_number⟩)
  (c_Lis_number : PySem.W.codeIn K cd_Lis_number "_law_is_number" = true)
  (k_Lis_number : PySem.W.keepIn K (.ref f_Lis_number) = true)
  (a_Lodd_ladder : PySem.W.nsIn K mainGlobals "_law_odd_ladder" = some (some (.ref f_Lodd_ladder)))
  (l_Lodd_ladder : K.lookup f_Lodd_ladder = some ⟨oc_Lodd_ladder, od_Lodd_ladder, .func (PySem.W.fnOf "_law_odd_ladder" "_law_odd_ladder" (defArgs s_Lodd_ladder) (defBody s_Lodd_ladder) (defScope s_Lodd_ladder) .none kV_Lodd_ladder dc_Lodd_ladder pm_Lodd_ladder an_Lodd_ladder cd_Lodd_ladder ct_Lodd_ladder), sl_Lodd_ladder⟩)
  (c_Lodd_ladder : PySem.W.codeIn K cd_Lodd_ladder "_law_odd_ladder" = true)
  (k_Lodd_ladder : PySem.W.keepIn K (.ref f_Lodd_ladder) = true)
  (a_Lodd_kinds : PySem.W.nsIn K mainGlobals "_law_odd_kinds" = some (some (.ref f_Lodd_kinds)))
  (l_Lodd_kinds : K.lookup f_Lodd_kinds = some ⟨oc_Lodd_kinds, od_Lodd_kinds, .func (PySem.W.fnOf "_law_odd_kinds" "_law_odd_kinds" (defArgs s_Lodd_kinds) (defBody s_Lodd_kinds) (defScope s_Lodd_kinds) .none kV_Lodd_kinds dc_Lodd_kinds pm_Lodd_kinds an_Lodd_kinds cd_Lodd_kinds ct_Lodd_kinds), sl_Lodd_kinds⟩)
  (c_Lodd_kinds : PySem.W.codeIn K cd_Lodd_kinds "_law_odd_kinds" = true)
  (k_Lodd_kinds : PySem.W.keepIn K (.ref f_Lodd_kinds) = true)
  (a_Lrow_of_counts : PySem.W.nsIn K mainGlobals "_law_row_of_counts" = some (some (.ref f_Lrow_of_counts)))
  (l_Lrow_of_counts : K.lookup f_Lrow_of_counts = some ⟨oc_Lrow_of_counts, od_Lrow_of_counts, .func (PySem.W.fnOf "_law_row_of_counts" "_law_row_of_counts" (defArgs s_Lrow_of_counts) (defBody s_Lrow_of_counts) (defScope s_Lrow_of_counts) .none kV_Lrow_of_counts dc_Lrow_of_counts pm_Lrow_of_counts an_Lrow_of_counts cd_Lrow_of_counts ct_Lrow_of_counts), sl_Lrow_of_counts⟩)
  (c_Lrow_of_counts : PySem.W.codeIn K cd_Lrow_of_counts "_law_row_of_counts" = true)
  (k_Lrow_of_counts : PySem.W.keepIn K (.ref f_Lrow_of_counts) = true)
  (a_Lfirst_enough : PySem.W.nsIn K mainGlobals "_law_first_enough" = some (some (.ref f_Lfirst_enough)))
  (l_Lfirst_enough : K.lookup f_Lfirst_enough = some ⟨oc_Lfirst_enough, od_Lfirst_enough, .func (PySem.W.fnOf "_law_first_enough" "_law_first_enough" (defArgs s_Lfirst_enough) (defBody s_Lfirst_enough) (defScope s_Lfirst_enough) .none kV_Lfirst_enough dc_Lfirst_enough pm_Lfirst_enough an_Lfirst_enough cd_Lfirst_enough ct_Lfirst_enough), sl_Lfirst_enough⟩)
  (c_Lfirst_enough : PySem.W.codeIn K cd_Lfirst_enough "_law_first_enough" = true)
  (k_Lfirst_enough : PySem.W.keepIn K (.ref f_Lfirst_enough) = true)
  (a_Lrefused : PySem.W.nsIn K mainGlobals "_law_refused" = some (some (.ref f_Lrefused)))
  (l_Lrefused : K.lookup f_Lrefused = some ⟨oc_Lrefused, od_Lrefused, .func (PySem.W.fnOf "_law_refused" "_law_refused" (defArgs s_Lrefused) (defBody s_Lrefused) (defScope s_Lrefused) .none kV_Lrefused dc_Lrefused pm_Lrefused an_Lrefused cd_Lrefused ct_Lrefused), sl_Lrefused⟩)
  (c_Lrefused : PySem.W.codeIn K cd_Lrefused "_law_refused" = true)
  (k_Lrefused : PySem.W.keepIn K (.ref f_Lrefused) = true)
  (a_law : PySem.W.nsIn K mainGlobals "law" = some (some (.ref f_law)))
  (l_law : K.lookup f_law = some ⟨oc_law, od_law, .func (PySem.W.fnOf "law" "law" (defArgs s_law) (defBody s_law) (defScope s_law) .none kV_law dc_law pm_law an_law (.ref cc_law) ct_law), sl_law⟩)
  (c_law : PySem.W.codeIn K (.ref cc_law) "law" = true)
  (k_law : PySem.W.keepIn K (.ref f_law) = true)
  (k_CallError : PySem.W.keepIn K (.ref C_CallError) = true)
  (b_CallError : PySem.W.subIn K (.ref C_CallError) (.type "BaseException") = some true)
  (t_CallError : PySem.W.typeIn K (.ref C_CallError) = some (.type "type"))
  (i_CallError : PySem.W.isClsIn K C_CallError = true)
  (s_CallError : PySem.W.subIn K (.ref C_CallError) (.ref C_CallError) = some true)
  (x_CallError : PySem.W.excIn K C_CallError [.type "ValueError", .type "Exception", .type "BaseException", .type "object"] "ValueError.__new__" = true)
  (k_BadLadder : PySem.W.keepIn K (.ref C_BadLadder) = true)
  (b_BadLadder : PySem.W.subIn K (.ref C_BadLadder) (.type "BaseException") = some true)
  (t_BadLadder : PySem.W.typeIn K (.ref C_BadLadder) = some (.type "type"))
  (i_BadLadder : PySem.W.isClsIn K C_BadLadder = true)
  (s_BadLadder : PySem.W.subIn K (.ref C_BadLadder) (.ref C_BadLadder) = some true)
  (x_BadLadder : PySem.W.excIn K C_BadLadder [.type "ValueError", .type "Exception", .type "BaseException", .type "object"] "ValueError.__new__" = true)
  (u_BadKinds_BadLadder : PySem.W.subIn K (.ref C_BadKinds) (.ref C_BadLadder) = some false)
  (k_BadKinds : PySem.W.keepIn K (.ref C_BadKinds) = true)
  (b_BadKinds : PySem.W.subIn K (.ref C_BadKinds) (.type "BaseException") = some true)
  (t_BadKinds : PySem.W.typeIn K (.ref C_BadKinds) = some (.type "type"))
  (i_BadKinds : PySem.W.isClsIn K C_BadKinds = true)
  (s_BadKinds : PySem.W.subIn K (.ref C_BadKinds) (.ref C_BadKinds) = some true)
  (x_BadKinds : PySem.W.excIn K C_BadKinds [.type "ValueError", .type "Exception", .type "BaseException", .type "object"] "ValueError.__new__" = true)
  (z_ValueError : PySem.W.nsIn K mainGlobals "ValueError" = some none)
  (z_abs : PySem.W.nsIn K mainGlobals "abs" = some none)
  (z_bool : PySem.W.nsIn K mainGlobals "bool" = some none)
  (z_enumerate : PySem.W.nsIn K mainGlobals "enumerate" = some none)
  (z_int : PySem.W.nsIn K mainGlobals "int" = some none)
  (z_isinstance : PySem.W.nsIn K mainGlobals "isinstance" = some none)
  (z_len : PySem.W.nsIn K mainGlobals "len" = some none)
  (z_min : PySem.W.nsIn K mainGlobals "min" = some none)
  (z_range : PySem.W.nsIn K mainGlobals "range" = some none)
  (c_LADDER_MOST : PySem.W.nsIn K mainGlobals "LADDER_MOST" = some (some (.int (6) t_LADDER_MOST)))
  (c_COUNT_LADDER_MOST : PySem.W.nsIn K mainGlobals "COUNT_LADDER_MOST" = some (some (.int (200) t_COUNT_LADDER_MOST)))
  (v_law : K.lookup cc_law = some ⟨.type "code", cdd_law, .fields cvs_law, csl_law⟩)
  (v11_law : cvs_law[11]? = some (.ref P_law))
  (w11_law : cvs_law.getD 11 .none = .ref P_law)
  (v18_law : cvs_law.getD 18 .none = .str cf_law cft_law)
  (v7_law : cvs_law.getD 7 .none = .int cg_law cgt_law)
  (v9_law : cvs_law.getD 9 .none = .bool ci_law)
  (v10_law : cvs_law.getD 10 .none = .int cx_law ctt_law)
  (nPC_law : cc_law ≠ P_law)
  (nP_law : K.lookup P_law = none)
  (xga_BadLadder : PySem.W.findIn K (.ref C_BadLadder) "__getattribute__" = some (some (.builtin "BaseException.__getattribute__")))
  (xgg_BadLadder : PySem.W.findIn K (.ref C_BadLadder) "__getattr__" = some none)
  (xca_BadLadder : PySem.W.findIn K (.ref C_BadLadder) "__class__" = some (some (.builtin "object.__class__")))
  (xmr_BadLadder : PySem.W.mroIn K C_BadLadder (.type "object") = some true)
  (xga_BadKinds : PySem.W.findIn K (.ref C_BadKinds) "__getattribute__" = some (some (.builtin "BaseException.__getattribute__")))
  (xgg_BadKinds : PySem.W.findIn K (.ref C_BadKinds) "__getattr__" = some none)
  (xca_BadKinds : PySem.W.findIn K (.ref C_BadKinds) "__class__" = some (some (.builtin "object.__class__")))
  (xmr_BadKinds : PySem.W.mroIn K C_BadKinds (.type "object") = some true)
  (xsp : PySem.W.specialIn K (.builtin "object.__class__") "__get__" = some (some (.builtin "getset_descriptor.__get__")))
  (xtk : PySem.W.takesIn K (.builtin "object.__class__") = some true)
  (xl1 : PySem.W.kitOne K (.ref C_BadLadder) (.ref C_CallError) = some true)
  (xl2 : PySem.W.kitOne K (.ref C_BadLadder) (.type "ValueError") = some true)
  (xl3 : PySem.W.kitOne K (.ref C_BadLadder) (.ref C_BadKinds) = some false)
  (xk1 : PySem.W.kitOne K (.ref C_BadKinds) (.ref C_CallError) = some true)
  (xk2 : PySem.W.kitOne K (.ref C_BadKinds) (.type "ValueError") = some true)
  (xk3 : PySem.W.kitOne K (.ref C_BadKinds) (.ref C_BadLadder) = some false) :
    LamX.LawAtS l w K CX0 7 63 "_law_script" mg fa h := by
  have e : f_law = fa := Value.ref.inj (Option.some.inj ((PySem.W.mg_of X G a_law).symm.trans hfa))
  subst e
  have F_is_whole : FunD K "is_whole" "is_whole" (defArgs s_is_whole) (defBody s_is_whole) (defScope s_is_whole) [.non, .non] [] f_is_whole (PySem.W.fnOf "is_whole" "is_whole" (defArgs s_is_whole) (defBody s_is_whole) (defScope s_is_whole) (.ref q_is_whole) kV_is_whole dc_is_whole pm_is_whole an_is_whole cd_is_whole ct_is_whole) := ⟨⟨oc_is_whole, od_is_whole, _, kV_is_whole, dc_is_whole, pm_is_whole, an_is_whole, cd_is_whole, ct_is_whole, sl_is_whole, rfl, l_is_whole, c_is_whole, .inr ⟨by simp, q_is_whole, _, [Value.none, Value.none], qn_is_whole, rfl, t_is_whole, rfl, (.cons rfl (.cons rfl .nil))⟩, .inl rfl⟩, k_is_whole⟩
  have F_check_ladder : FunD K "check_ladder" "check_ladder" (defArgs s_check_ladder) (defBody s_check_ladder) (defScope s_check_ladder) [(.int 6)] [] f_check_ladder (PySem.W.fnOf "check_ladder" "check_ladder" (defArgs s_check_ladder) (defBody s_check_ladder) (defScope s_check_ladder) (.ref q_check_ladder) kV_check_ladder dc_check_ladder pm_check_ladder an_check_ladder cd_check_ladder ct_check_ladder) := ⟨⟨oc_check_ladder, od_check_ladder, _, kV_check_ladder, dc_check_ladder, pm_check_ladder, an_check_ladder, cd_check_ladder, ct_check_ladder, sl_check_ladder, rfl, l_check_ladder, c_check_ladder, .inr ⟨by simp, q_check_ladder, _, [Value.int (6) qt0_check_ladder], qn_check_ladder, rfl, t_check_ladder, rfl, (.cons ⟨_, rfl⟩ .nil)⟩, .inl rfl⟩, k_check_ladder⟩
  have F_told_count := fun_mk (st := s_told_count) l_told_count c_told_count k_told_count
  have F_asked_count := fun_mk (st := s_asked_count) l_asked_count c_asked_count k_asked_count
  have F_least_told := fun_mk (st := s_least_told) l_least_told c_least_told k_least_told
  have F_Lmix := fun_mk (st := s_Lmix) l_Lmix c_Lmix k_Lmix
  have F_Lhand := fun_mk (st := s_Lhand) l_Lhand c_Lhand k_Lhand
  have F_Ldraw := fun_mk (st := s_Ldraw) l_Ldraw c_Ldraw k_Ldraw
  have F_Lis_number := fun_mk (st := s_Lis_number) l_Lis_number c_Lis_number k_Lis_number
  have F_Lodd_ladder := fun_mk (st := s_Lodd_ladder) l_Lodd_ladder c_Lodd_ladder k_Lodd_ladder
  have F_Lodd_kinds := fun_mk (st := s_Lodd_kinds) l_Lodd_kinds c_Lodd_kinds k_Lodd_kinds
  have F_Lrow_of_counts := fun_mk (st := s_Lrow_of_counts) l_Lrow_of_counts c_Lrow_of_counts k_Lrow_of_counts
  have F_Lfirst_enough := fun_mk (st := s_Lfirst_enough) l_Lfirst_enough c_Lfirst_enough k_Lfirst_enough
  have F_Lrefused := fun_mk (st := s_Lrefused) l_Lrefused c_Lrefused k_Lrefused
  have F_law := fun_mk (st := s_law) l_law c_law k_law
  let T : Tx := {
    f_is_whole := f_is_whole,
    d_is_whole := PySem.W.fnOf "is_whole" "is_whole" (defArgs s_is_whole) (defBody s_is_whole) (defScope s_is_whole) (.ref q_is_whole) kV_is_whole dc_is_whole pm_is_whole an_is_whole cd_is_whole ct_is_whole,
    e1_is_whole := [Value.none],
    e2_is_whole := [Value.none, Value.none],
    f_check_ladder := f_check_ladder,
    d_check_ladder := PySem.W.fnOf "check_ladder" "check_ladder" (defArgs s_check_ladder) (defBody s_check_ladder) (defScope s_check_ladder) (.ref q_check_ladder) kV_check_ladder dc_check_ladder pm_check_ladder an_check_ladder cd_check_ladder ct_check_ladder,
    e1_check_ladder := [Value.int (6) qt0_check_ladder],
    f_told_count := f_told_count,
    d_told_count := PySem.W.fnOf "told_count" "told_count" (defArgs s_told_count) (defBody s_told_count) (defScope s_told_count) .none kV_told_count dc_told_count pm_told_count an_told_count cd_told_count ct_told_count,
    f_asked_count := f_asked_count,
    d_asked_count := PySem.W.fnOf "asked_count" "asked_count" (defArgs s_asked_count) (defBody s_asked_count) (defScope s_asked_count) .none kV_asked_count dc_asked_count pm_asked_count an_asked_count cd_asked_count ct_asked_count,
    f_least_told := f_least_told,
    d_least_told := PySem.W.fnOf "least_told" "least_told" (defArgs s_least_told) (defBody s_least_told) (defScope s_least_told) .none kV_least_told dc_least_told pm_least_told an_least_told cd_least_told ct_least_told,
    f_Lmix := f_Lmix,
    d_Lmix := PySem.W.fnOf "_law_mix" "_law_mix" (defArgs s_Lmix) (defBody s_Lmix) (defScope s_Lmix) .none kV_Lmix dc_Lmix pm_Lmix an_Lmix cd_Lmix ct_Lmix,
    f_Lhand := f_Lhand,
    d_Lhand := PySem.W.fnOf "_law_hand" "_law_hand" (defArgs s_Lhand) (defBody s_Lhand) (defScope s_Lhand) .none kV_Lhand dc_Lhand pm_Lhand an_Lhand cd_Lhand ct_Lhand,
    f_Ldraw := f_Ldraw,
    d_Ldraw := PySem.W.fnOf "_law_draw" "_law_draw" (defArgs s_Ldraw) (defBody s_Ldraw) (defScope s_Ldraw) .none kV_Ldraw dc_Ldraw pm_Ldraw an_Ldraw cd_Ldraw ct_Ldraw,
    f_Lis_number := f_Lis_number,
    d_Lis_number := PySem.W.fnOf "_law_is_number" "_law_is_number" (defArgs s_Lis_number) (defBody s_Lis_number) (defScope s_Lis_number) .none kV_Lis_number dc_Lis_number pm_Lis_number an_Lis_number cd_Lis_number ct_Lis_number,
    f_Lodd_ladder := f_Lodd_ladder,
    d_Lodd_ladder := PySem.W.fnOf "_law_odd_ladder" "_law_odd_ladder" (defArgs s_Lodd_ladder) (defBody s_Lodd_ladder) (defScope s_Lodd_ladder) .none kV_Lodd_ladder dc_Lodd_ladder pm_Lodd_ladder an_Lodd_ladder cd_Lodd_ladder ct_Lodd_ladder,
    f_Lodd_kinds := f_Lodd_kinds,
    d_Lodd_kinds := PySem.W.fnOf "_law_odd_kinds" "_law_odd_kinds" (defArgs s_Lodd_kinds) (defBody s_Lodd_kinds) (defScope s_Lodd_kinds) .none kV_Lodd_kinds dc_Lodd_kinds pm_Lodd_kinds an_Lodd_kinds cd_Lodd_kinds ct_Lodd_kinds,
    f_Lrow_of_counts := f_Lrow_of_counts,
    d_Lrow_of_counts := PySem.W.fnOf "_law_row_of_counts" "_law_row_of_counts" (defArgs s_Lrow_of_counts) (defBody s_Lrow_of_counts) (defScope s_Lrow_of_counts) .none kV_Lrow_of_counts dc_Lrow_of_counts pm_Lrow_of_counts an_Lrow_of_counts cd_Lrow_of_counts ct_Lrow_of_counts,
    f_Lfirst_enough := f_Lfirst_enough,
    d_Lfirst_enough := PySem.W.fnOf "_law_first_enough" "_law_first_enough" (defArgs s_Lfirst_enough) (defBody s_Lfirst_enough) (defScope s_Lfirst_enough) .none kV_Lfirst_enough dc_Lfirst_enough pm_Lfirst_enough an_Lfirst_enough cd_Lfirst_enough ct_Lfirst_enough,
    f_Lrefused := f_Lrefused,
    d_Lrefused := PySem.W.fnOf "_law_refused" "_law_refused" (defArgs s_Lrefused) (defBody s_Lrefused) (defScope s_Lrefused) .none kV_Lrefused dc_Lrefused pm_Lrefused an_Lrefused cd_Lrefused ct_Lrefused,
    f_law := f_law,
    d_law := PySem.W.fnOf "law" "law" (defArgs s_law) (defBody s_law) (defScope s_law) .none kV_law dc_law pm_law an_law (.ref cc_law) ct_law,
    C_CallError := C_CallError,
    C_BadLadder := C_BadLadder,
    C_BadKinds := C_BadKinds,
    t_LADDER_MOST := t_LADDER_MOST,
    t_COUNT_LADDER_MOST := t_COUNT_LADDER_MOST }
  have O : Ok K mg T := {
    F_is_whole := F_is_whole,
    b_is_whole := Jv.bindsD (K := K) (T := q_is_whole) (m := 3) t_is_whole rfl rfl fun us hl => match us, hl with | [_, _, _], _ => ⟨_, rfl, rfl⟩,
    b1_is_whole := ⟨(.cons rfl .nil), Jv.bindsD (K := K) (T := q_is_whole) (m := 2) t_is_whole rfl rfl fun us hl => match us, hl with | [_, _], _ => ⟨_, rfl, rfl⟩⟩,
    b2_is_whole := ⟨(.cons rfl (.cons rfl .nil)), Jv.bindsD (K := K) (T := q_is_whole) (m := 1) t_is_whole rfl rfl fun us hl => match us, hl with | [_], _ => ⟨_, rfl, rfl⟩⟩,
    m_is_whole := PySem.W.mg_of X G a_is_whole,
    F_check_ladder := F_check_ladder,
    b_check_ladder := Jv.bindsD (K := K) (T := q_check_ladder) (m := 2) t_check_ladder rfl rfl fun us hl => match us, hl with | [_, _], _ => ⟨_, rfl, rfl⟩,
    b1_check_ladder := ⟨(.cons ⟨_, rfl⟩ .nil), Jv.bindsD (K := K) (T := q_check_ladder) (m := 1) t_check_ladder rfl rfl fun us hl => match us, hl with | [_], _ => ⟨_, rfl, rfl⟩⟩,
    m_check_ladder := PySem.W.mg_of X G a_check_ladder,
    F_told_count := F_told_count,
    b_told_count := F_told_count.binds (ps := ["ladder"]) fun _ _ _ _ _ _ us hl => match us, hl with | [_], _ => rfl,
    m_told_count := PySem.W.mg_of X G a_told_count,
    F_asked_count := F_asked_count,
    b_asked_count := F_asked_count.binds (ps := ["ladder"]) fun _ _ _ _ _ _ us hl => match us, hl with | [_], _ => rfl,
    m_asked_count := PySem.W.mg_of X G a_asked_count,
    F_least_told := F_least_told,
    b_least_told := F_least_told.binds (ps := ["kinds"]) fun _ _ _ _ _ _ us hl => match us, hl with | [_], _ => rfl,
    m_least_told := PySem.W.mg_of X G a_least_told,
    F_Lmix := F_Lmix,
    b_Lmix := F_Lmix.binds (ps := ["_law_number", "_law_turn"]) fun _ _ _ _ _ _ us hl => match us, hl with | [_, _], _ => rfl,
    m_Lmix := PySem.W.mg_of X G a_Lmix,
    F_Lhand := F_Lhand,
    b_Lhand := F_Lhand.binds (ps := ["_law_script"]) fun _ _ _ _ _ _ us hl => match us, hl with | [_], _ => rfl,
    m_Lhand := PySem.W.mg_of X G a_Lhand,
    F_Ldraw := F_Ldraw,
    b_Ldraw := F_Ldraw.binds (ps := ["_law_hand_here", "_law_many"]) fun _ _ _ _ _ _ us hl => match us, hl with | [_, _], _ => rfl,
    m_Ldraw := PySem.W.mg_of X G a_Ldraw,
    F_Lis_number := F_Lis_number,
    b_Lis_number := F_Lis_number.binds (ps := ["_law_thing"]) fun _ _ _ _ _ _ us hl => match us, hl with | [_], _ => rfl,
    m_Lis_number := PySem.W.mg_of X G a_Lis_number,
    F_Lodd_ladder := F_Lodd_ladder,
    b_Lodd_ladder := F_Lodd_ladder.binds (ps := ["_law_hand_here", "_law_most"]) fun _ _ _ _ _ _ us hl => match us, hl with | [_, _], _ => rfl,
    m_Lodd_ladder := PySem.W.mg_of X G a_Lodd_ladder,
    F_Lodd_kinds := F_Lodd_kinds,
    b_Lodd_kinds := F_Lodd_kinds.binds (ps := ["_law_hand_here", "_law_most"]) fun _ _ _ _ _ _ us hl => match us, hl with | [_, _], _ => rfl,
    m_Lodd_kinds := PySem.W.mg_of X G a_Lodd_kinds,
    F_Lrow_of_counts := F_Lrow_of_counts,
    b_Lrow_of_counts := F_Lrow_of_counts.binds (ps := []) fun _ _ _ _ _ _ us hl => match us, hl with | [], _ => rfl,
    m_Lrow_of_counts := PySem.W.mg_of X G a_Lrow_of_counts,
    F_Lfirst_enough := F_Lfirst_enough,
    b_Lfirst_enough := F_Lfirst_enough.binds (ps := ["_law_row", "_law_kinds"]) fun _ _ _ _ _ _ us hl => match us, hl with | [_, _], _ => rfl,
    m_Lfirst_enough := PySem.W.mg_of X G a_Lfirst_enough,
    F_Lrefused := F_Lrefused,
    b_Lrefused := F_Lrefused.binds (ps := ["_law_call"]) fun _ _ _ _ _ _ us hl => match us, hl with | [_], _ => rfl,
    m_Lrefused := PySem.W.mg_of X G a_Lrefused,
    F_law := F_law,
    b_law := F_law.binds (ps := ["_law_script"]) fun _ _ _ _ _ _ us hl => match us, hl with | [_], _ => rfl,
    m_law := PySem.W.mg_of X G a_law,
    m_CallError := PySem.W.mg_of X G a_CallError,
    e_CallError := ⟨x_CallError, k_CallError, b_CallError, t_CallError, i_CallError, s_CallError⟩,
    m_BadLadder := PySem.W.mg_of X G a_BadLadder,
    e_BadLadder := ⟨x_BadLadder, k_BadLadder, b_BadLadder, t_BadLadder, i_BadLadder, s_BadLadder⟩,
    m_BadKinds := PySem.W.mg_of X G a_BadKinds,
    u_BadKinds_BadLadder := u_BadKinds_BadLadder,
    e_BadKinds := ⟨x_BadKinds, k_BadKinds, b_BadKinds, t_BadKinds, i_BadKinds, s_BadKinds⟩,
    z_ValueError := PySem.W.mg_none_of X G z_ValueError,
    z_abs := PySem.W.mg_none_of X G z_abs,
    z_bool := PySem.W.mg_none_of X G z_bool,
    z_enumerate := PySem.W.mg_none_of X G z_enumerate,
    z_int := PySem.W.mg_none_of X G z_int,
    z_isinstance := PySem.W.mg_none_of X G z_isinstance,
    z_len := PySem.W.mg_none_of X G z_len,
    z_min := PySem.W.mg_none_of X G z_min,
    z_range := PySem.W.mg_none_of X G z_range,
    c_LADDER_MOST := PySem.W.mg_of X G c_LADDER_MOST,
    c_COUNT_LADDER_MOST := PySem.W.mg_of X G c_COUNT_LADDER_MOST }
  have Z : XR K T := ⟨⟨i_BadLadder, xga_BadLadder, xgg_BadLadder, b_BadLadder, xca_BadLadder, xsp, xtk, xmr_BadLadder⟩, ⟨i_BadKinds, xga_BadKinds, xgg_BadKinds, b_BadKinds, xca_BadKinds, xsp, xtk, xmr_BadKinds⟩, xl1, xl2, xl3, xk1, xk2, xk3⟩
  have LC : LawC K T cc_law := ⟨⟨_, _, _, _, _, _, _, _, rfl, l_law, c_law⟩⟩
  have tabP : h.get? P_law = some { cls := .none, data := .fields #[] } := own cc_law P_law _ _ _ _ _ _ l_law rfl rfl v_law v11_law
  have hdP : PySem.W.CodeHd h cc_law P_law := ⟨_, cvs_law, cf_law, cft_law, cg_law, cgt_law, ci_law, cx_law, ctt_law, X _ _ v_law, rfl, rfl, v11_law, w11_law, v18_law, v7_law, v9_law, v10_law, nPC_law⟩
  exact ⟨T.d_law, [(cc_law, P_law)], sp_lawT K P_law, fun p hp => by cases List.mem_singleton.mp hp; exact tabP, fun p hp => by cases List.mem_singleton.mp hp; exact nP_law, fun p hp => by cases List.mem_singleton.mp hp; exact hdP, fun s v => .of_eq rfl,
    fun H a ns hl _ hT hS => ⟨a, ns, rfl, hS, hl, hT _ (List.mem_singleton.mpr rfl), fun _ => rfl⟩, fun base _ _ TB => ok_law T O Z LC (TB _ (List.mem_singleton.mpr rfl))⟩
end K34
open PySem PySem.W PyProof.Rows
set_option maxHeartbeats 0 in
theorem PySem.Challenge.cw_risingcalls_k34_told_counts_and_least_la_holds : PySem.Challenge.rw_risingcalls_k34_told_counts_and_least_la.Holds := by
  w_on; o_law; k_head; (case hw => w_witness2)
  k_fill
  refine LamX.walk_ofOwn (l := PySem.Challenge.rw_risingcalls_k34_told_counts_and_least_la) (n := 63) (k := 7) (x := "_law_script") (CX := fun _ => L2.CX0) rfl (by decide) rfl ⟨rfl, by decide, by decide⟩ (by first | rfl | kernel_rfl) (fun w h Y => PySem.W.km_in_of Y) ?F (fun _ _ _ _ _ h => h)
  case F =>
    intro w mg fa h _ KX G hmg own
    refine' K34.all_mk KX G hmg own ?a_CallError ?a_BadLadder ?a_BadKinds ?a_is_whole ?l_is_whole ?c_is_whole ?k_is_whole ?t_is_whole ?a_check_ladder ?l_check_ladder ?c_check_ladder ?k_check_ladder ?t_check_ladder ?a_told_count ?l_told_count ?c_told_count ?k_told_count ?a_asked_count ?l_asked_count ?c_asked_count ?k_asked_count ?a_least_told ?l_least_told ?c_least_told ?k_least_told ?a_Lmix ?l_Lmix ?c_Lmix ?k_Lmix ?a_Lhand ?l_Lhand ?c_Lhand ?k_Lhand ?a_Ldraw ?l_Ldraw ?c_Ldraw ?k_Ldraw ?a_Lis_number ?l_Lis_number ?c_Lis_number ?k_Lis_number ?a_Lodd_ladder ?l_Lodd_ladder ?c_Lodd_ladder ?k_Lodd_ladder ?a_Lodd_kinds ?l_Lodd_kinds ?c_Lodd_kinds ?k_Lodd_kinds ?a_Lrow_of_counts ?l_Lrow_of_counts ?c_Lrow_of_counts ?k_Lrow_of_counts ?a_Lfirst_enough ?l_Lfirst_enough ?c_Lfirst_enough ?k_Lfirst_enough ?a_Lrefused ?l_Lrefused ?c_Lrefused ?k_Lrefused ?a_law ?l_law ?c_law ?k_law ?k_CallError ?b_CallError ?t_CallError ?i_CallError ?s_CallError ?x_CallError ?k_BadLadder ?b_BadLadder ?t_BadLadder ?i_BadLadder ?s_BadLadder ?x_BadLadder ?u_BadKinds_BadLadder ?k_BadKinds ?b_BadKinds ?t_BadKinds ?i_BadKinds ?s_BadKinds ?x_BadKinds ?z_ValueError ?z_abs ?z_bool ?z_enumerate ?z_int ?z_isinstance ?z_len ?z_min ?z_range ?c_LADDER_MOST ?c_COUNT_LADDER_MOST ?v_law ?v11_law ?w11_law ?v18_law ?v7_law ?v9_law ?v10_law ?nPC_law ?nP_law ?xga_BadLadder ?xgg_BadLadder ?xca_BadLadder ?xmr_BadLadder ?xga_BadKinds ?xgg_BadKinds ?xca_BadKinds ?xmr_BadKinds ?xsp ?xtk ?xl1 ?xl2 ?xl3 ?xk1 ?xk2 ?xk3
    (case a_CallError => k_is)
    (case a_BadLadder => k_is)
    (case a_BadKinds => k_is)
    (case a_is_whole => k_is)
    (case l_is_whole => k_is)
    (case c_is_whole => k_is)
    (case k_is_whole => k_is)
    (case t_is_whole => k_is)
    (case a_check_ladder => k_is)
    (case l_check_ladder => k_is)
    (case c_check_ladder => k_is)
    (case k_check_ladder => k_is)
    (case t_check_ladder => k_is)
    (case a_told_count => k_is)
    (case l_told_count => k_is)
    (case c_told_count => k_is)
    (case k_told_count => k_is)
    (case a_asked_count => k_is)
    (case l_asked_count => k_is)
    (case c_asked_count => k_is)
    (case k_asked_count => k_is)
    (case a_least_told => k_is)
    (case l_least_told => k_is)
    (case c_least_told => k_is)
    (case k_least_told => k_is)
    (case a_Lmix => k_is)
    (case l_Lmix => k_is)
    (case c_Lmix => k_is)
    (case k_Lmix => k_is)
    (case a_Lhand => k_is)
    (case l_Lhand => k_is)
    (case c_Lhand => k_is)
    (case k_Lhand => k_is)
    (case a_Ldraw => k_is)
    (case l_Ldraw => k_is)
    (case c_Ldraw => k_is)
    (case k_Ldraw => k_is)
    (case a_Lis_number => k_is)
    (case l_Lis_number => k_is)
    (case c_Lis_number => k_is)
    (case k_Lis_number => k_is)
    (case a_Lodd_ladder => k_is)
    (case l_Lodd_ladder => k_is)
    (case c_Lodd_ladder => k_is)
    (case k_Lodd_ladder => k_is)
    (case a_Lodd_kinds => k_is)
    (case l_Lodd_kinds => k_is)
    (case c_Lodd_kinds => k_is)
    (case k_Lodd_kinds => k_is)
    (case a_Lrow_of_counts => k_is)
    (case l_Lrow_of_counts => k_is)
    (case c_Lrow_of_counts => k_is)
    (case k_Lrow_of_counts => k_is)
    (case a_Lfirst_enough => k_is)
    (case l_Lfirst_enough => k_is)
    (case c_Lfirst_enough => k_is)
    (case k_Lfirst_enough => k_is)
    (case a_Lrefused => k_is)
    (case l_Lrefused => k_is)
    (case c_Lrefused => k_is)
    (case k_Lrefused => k_is)
    (case a_law => k_is)
    (case l_law => k_is)
    (case c_law => k_is)
    (case k_law => k_is)
    (case k_CallError => k_is)
    (case b_CallError => k_is)
    (case t_CallError => k_is)
    (case i_CallError => k_is)
    (case s_CallError => first | rfl | k_is)
    (case x_CallError => k_exc)
    (case k_BadLadder => k_is)
    (case b_BadLadder => k_is)
    (case t_BadLadder => k_is)
    (case i_BadLadder => k_is)
    (case s_BadLadder => first | rfl | k_is)
    (case x_BadLadder => k_exc)
    (case u_BadKinds_BadLadder => first | rfl | k_is)
    (case k_BadKinds => k_is)
    (case b_BadKinds => k_is)
    (case t_BadKinds => k_is)
    (case i_BadKinds => k_is)
    (case s_BadKinds => first | rfl | k_is)
    (case x_BadKinds => k_exc)
    (case z_ValueError => k_is)
    (case z_abs => k_is)
    (case z_bool => k_is)
    (case z_enumerate => k_is)
    (case z_int => k_is)
    (case z_isinstance => k_is)
    (case z_len => k_is)
    (case z_min => k_is)
    (case z_range => k_is)
    (case c_LADDER_MOST => k_is)
    (case c_COUNT_LADDER_MOST => k_is)
    (case v_law => k_is)
    (case v11_law => rfl)
    (case w11_law => rfl)
    (case v18_law => rfl)
    (case v7_law => rfl)
    (case v9_law => rfl)
    (case v10_law => rfl)
    (case nPC_law => decide)
    (case nP_law => first | rfl | kernel_rfl)
    (case xga_BadLadder => k_is)
    (case xgg_BadLadder => k_is)
    (case xca_BadLadder => k_is)
    (case xmr_BadLadder => k_is)
    (case xga_BadKinds => k_is)
    (case xgg_BadKinds => k_is)
    (case xca_BadKinds => k_is)
    (case xmr_BadKinds => k_is)
    (case xsp => k_is)
    (case xtk => k_is)
    (case xl1 => first | rfl | kernel_rfl)
    (case xl2 => first | rfl | kernel_rfl)
    (case xl3 => first | rfl | kernel_rfl)
    (case xk1 => first | rfl | kernel_rfl)
    (case xk2 => first | rfl | kernel_rfl)
    (case xk3 => first | rfl | kernel_rfl)

