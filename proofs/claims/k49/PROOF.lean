import PyProof.Rows.All
import Wide.All
import OpenK.AllK
import Wide.FinOn
import PyProof.EqAt
import PyProof.EqKinds
import PyProof.TupleCall
import HandS.ForMost
import HandS.ForExc
import HandS.Wide
import HandS.IsInst
import HandS.SortInts
import HandS.Strs
import HandS.SetFor
import HandS.Conv
import HandS.Small
import HandS.Defaults
import HandS.Walk
import HandS.Flow
import HandS.Codes
import HandS.ExcInit
import HandS.ExcField
import HandS.Style
import HandS.TryMany
import PySem.Challenge.RW_risingcalls_k49_costs_made_and_refused
import HandS.TupAny
set_option Elab.async false
set_option linter.all false
set_option maxRecDepth 100000
set_option maxHeartbeats 2000000

/-! ### my words for readings: one lemma a construct, by the head of the reading -/
namespace Jv
open PySem PySem.Spec PyProof.Rows L2
section
variable {K : PySem.W.Frag} {σ : L2.St} {H : Hp} {D : Ends} {t u : TS} {te ta tb tc : TE} {g : TG} {tt tu : TT} {tA : TA} {i : Nat} {v x y z : V} {Q : VK} {R : Bool → Hp → Prop}
theorem r_seq (h : t { D with nx := u D } σ H) : tSeq t u D σ H := h
theorem r_asg (h : te σ H fun x H1 => g x σ H1 D.nx) : tAsg te g D σ H := h
theorem r_gn {Q : L2.St → Hp → Prop} (h : Q (σ.set i (some v)) H) : gName i v σ H Q := h
theorem r_ret (h : te σ H D.rt) : tRet te D σ H := h
theorem r_retN (h : D.rt .non H) : tRetN D σ H := h
theorem r_drop (h : te σ H fun _ H1 => D.nx σ H1) : tDrop te D σ H := h
theorem r_if (h : tt σ H fun b H1 => if b = true then t D σ H1 else u D σ H1) : tIfS tt t u D σ H := h
theorem r_next (h : D.nx σ H) : tNext D σ H := h
theorem r_brk (h : D.bk σ H) : tBreak D σ H := h
theorem r_cont (h : D.ct σ H) : tCont D σ H := h
theorem r_var (h : σ[i]? = some (some v)) (q : Q v H) : tVar i σ H Q := ⟨v, h, q⟩
theorem r_c (q : Q v H) : tC v σ H Q := q
theorem r_op {r : R2} (h : ta σ H fun x H1 => tb σ H1 fun y H2 => r x y H2 Q) : tOp r ta tb σ H Q := h
theorem r_un {r : V → Hp → VK → Prop} (h : ta σ H fun x H1 => r x H1 Q) : tUn r ta σ H Q := h
theorem r_I {C : Int → Int → Prop} {f : Int → Int → V} {a b : Int} (c : C a b) (q : Q (f a b) H) : rI C f (.int a) (.int b) H Q := ⟨a, b, rfl, rfl, c, q⟩
theorem r_I0 {f : Int → Int → V} {a b : Int} (q : Q (f a b) H) : rI0 f (.int a) (.int b) H Q := ⟨a, b, rfl, rfl, q⟩
theorem r_U {f : Int → V} {a : Int} (q : Q (f a) H) : rU f (.int a) H Q := ⟨a, rfl, q⟩
theorem r_eq (s : scal x y = true) (q : Q (.bl (decide (x = y))) H) : rEq x y H Q := ⟨s, q⟩
theorem r_ne (s : scal x y = true) (q : Q (.bl (!decide (x = y))) H) : rNe x y H Q := ⟨s, q⟩
theorem r_test (h : te σ H fun x H1 => ∃ k, x = .bl k ∧ R k H1) : tTest te σ H R := h
theorem r_B (h : te σ H fun x H1 => ∃ k, x = .bl k ∧ R k H1) : tB te σ H R := h
theorem r_bl {b : Bool} {P : Bool → Prop} (q : P b) : ∃ k, V.bl b = .bl k ∧ P k := ⟨b, rfl, q⟩
theorem r_and (h : tt σ H fun c H1 => if c = true then tu σ H1 R else R false H1) : tAnd tt tu σ H R := h
theorem r_or (h : tt σ H fun c H1 => if c = true then R true H1 else tu σ H1 R) : tOr tt tu σ H R := h
theorem r_not (h : tt σ H fun c H1 => R (!c) H1) : tNot tt σ H R := h
theorem r_andV (h : ta σ H fun x H1 => ∃ c, x = .bl c ∧ if c = true then tb σ H1 Q else Q (.bl false) H1) : tAndV ta tb σ H Q := h
theorem r_orV (h : ta σ H fun x H1 => ∃ c, x = .bl c ∧ if c = true then Q (.bl true) H1 else tb σ H1 Q) : tOrV ta tb σ H Q := h
theorem r_notV (h : ta σ H fun x H1 => ∃ c, x = .bl c ∧ Q (.bl (!c)) H1) : tNotV ta σ H Q := h
theorem r_ife (h : tt σ H fun c H1 => if c = true then ta σ H1 Q else tb σ H1 Q) : tIf tt ta tb σ H Q := h
theorem r_chain {r r' : R2} (h : ta σ H fun x H1 => tb σ H1 fun y H2 => r x y H2 fun z H3 => ∃ k, z = .bl k ∧
  (if k = true then tc σ H3 fun w' H4 => r' y w' H4 Q else Q (.bl false) H3)) : tChain r r' ta tb tc σ H Q := h
theorem r_nil {P : List V → Hp → Prop} (q : P [] H) : tNil σ H P := q
theorem r_cons {P : List V → Hp → Prop} (h : ta σ H fun x H1 => tA σ H1 fun xs H2 => P (x :: xs) H2) : tCons ta tA σ H P := h
theorem r_tup (h : tA σ H fun xs H1 => xs.length ≤ sizeLine ∧ ∀ p, H1 p = none → Q (.ref p) (upd H1 p (.tup xs))) : tTup tA σ H Q := h
theorem r_lst (h : tA σ H fun xs H1 => xs.length ≤ sizeLine ∧ ∀ p, H1 p = none → Q (.ref p) (upd H1 p (.lst xs))) : tLst tA σ H Q := h
theorem r_new {n : Nat} {P : Prop} (h1 : n ≤ 1000) (q : P) : n ≤ sizeLine ∧ P := ⟨Nat.le_trans h1 (by decide), q⟩
theorem r_CB {r : List V → Hp → VK → Prop} (h : tA σ H fun vs H1 => r vs H1 Q) : tCB r tA σ H Q := h
theorem r_call {sp : Sp} {dvs : List V} {E : XK} (h : tA σ H fun vs H1 => sp (vs ++ dvs) H1 Q E) : tCall sp dvs E tA σ H Q := h
theorem r_callS {sp : Sp} {E : L2.St → XK} (h : tA σ H fun vs H1 => sp vs H1 Q (E σ)) : tCallS sp E tA σ H Q := h
theorem r_for {wi : TI} (h : wi σ H fun J H1 => ∃ W : Nat → Nat → L2.St → Hp → Prop, (∃ m, W 0 m σ H1) ∧ ∀ i m σ H, W i m σ H →
  (J.stop i H ∧ D.nx σ H) ∨ (J.go i H ∧ ∃ N : L2.St → Hp → Prop, (∀ σ' H', N σ' H' → ∃ m', m' < m ∧ W (i + 1) m' σ' H') ∧ ∀ x H', J.yld i H x H' → g x σ H' fun σ2 H2 => t { D with nx := N, ct := N, bk := D.nx } σ2 H2)) : tFor wi g t D σ H := h
theorem r_iR1 {P : It → Hp → Prop} (h : tA σ H fun vs H1 => ∃ j : Int, vs = [.int j] ∧ -(2 ^ 62) ≤ j ∧ j < 2 ^ 62 ∧ P (Itr 0 j.toNat) H1) : iRng1 tA σ H P := h
theorem r_iR2 {P : It → Hp → Prop} (h : tA σ H fun vs H1 => ∃ i j : Int, vs = [.int i, .int j] ∧ (-(2 ^ 62) ≤ i ∧ i < 2 ^ 62 ∧ -(2 ^ 62) ≤ j ∧ j < 2 ^ 62) ∧ P (Itr i (j - i).toNat) H1) : iRng2 tA σ H P := h
theorem r_sub {to ti : TE} {w : TSet} {Q : L2.St → Hp → Prop} (h : to σ H fun o H1 => ti σ H1 fun i H2 => w o i v H2 fun H3 => Q σ H3) : gSub to ti w v σ H Q := h
theorem r_ixL {p : Addr} {xs : List V} {k : Int} (h : SqL K H p xs) (e : atI xs k = some v) (q : Q v H) : rIxL K (.ref p) (.int k) H Q := ⟨p, xs, k, v, rfl, rfl, h, e, q⟩
theorem r_ixT {p : Addr} {xs : List V} {k : Int} (h : SqT K H p xs) (e : atI xs k = some v) (q : Q v H) : rIxT K (.ref p) (.int k) H Q := ⟨p, xs, k, v, rfl, rfl, h, e, q⟩
theorem r_setL {p : Addr} {xs : List V} {k : Int} {j : Nat} {P : Hp → Prop} (h : H p = some (.lst xs)) (e : ixN xs.length k = some j) (q : P (upd H p (.lst (xs.set j v)))) : rSetL (.ref p) (.int k) v H P := ⟨p, xs, k, j, rfl, rfl, h, e, q⟩
theorem r_true {A B : Prop} {c : Bool} (e : c = true) (h : A) : if c = true then A else B := by rw [if_pos e]; exact h
theorem r_false {A B : Prop} {c : Bool} (e : c = false) (h : B) : if c = true then A else B := by rw [e, if_neg Bool.false_ne_true]; exact h
theorem r_dec {A B p : Prop} {_ : Decidable p} (h1 : p → A) (h2 : ¬ p → B) : if decide p = true then A else B := by
  by_cases h : p
  · exact r_true (decide_eq_true h) (h1 h)
  · exact r_false (decide_eq_false h) (h2 h)
theorem r_ndec {A B p : Prop} {_ : Decidable p} (h1 : ¬ p → A) (h2 : p → B) : if (!decide p) = true then A else B := by
  by_cases h : p
  · exact r_false (by rw [decide_eq_true h]; rfl) (h2 h)
  · exact r_true (by rw [decide_eq_false h]; rfl) (h1 h)
theorem r_bool {A B : Prop} {c : Bool} (h1 : c = true → A) (h2 : c = false → B) : if c = true then A else B := by
  cases c
  · exact r_false rfl (h2 rfl)
  · exact r_true rfl (h1 rfl)
theorem r_int {a : Int} {P : Int → Prop} {P' : Bool → Prop} (q : P a) : (∃ i, [V.int a] = [.int i] ∧ P i) ∨ ∃ k, [V.int a] = [.bl k] ∧ P' k := .inl ⟨a, rfl, q⟩
theorem small_of {n : Nat} (h : n ≤ 1000) : n ≤ sizeLine := Nat.le_trans h (by decide)
theorem small_lt {n : Nat} (h : n < 1000) : n < sizeLine := Nat.lt_of_lt_of_le h (by decide)
/-- what stands ahead of a new object, stands behind it -/
theorem kp {a p : Addr} {o u : HO} (h : H a = some o) (n : H p = none) : upd H p u a = some o := by rw [upd_ne (ne_of_none h n)]; exact h
theorem kpO {a l : Addr} {o u : HO} (h : H a = some o) (n : a ≠ l) : upd H l u a = some o := by rw [upd_ne n]; exact h
theorem same_new {p : Addr} {u : HO} (n : H p = none) : Same H (upd H p u) := fun _ _ e => kp e n
theorem Same.sqT {H' : Hp} {a : Addr} {xs : List V} (e : Same H H') (h : SqT K H a xs) : SqT K H' a xs := by
  rcases h with (h | ⟨o, h⟩) | h
  · exact .inl (.inl (e _ _ h))
  · exact .inl (.inr ⟨o, e _ _ h⟩)
  · exact .inr h
end
end Jv

/-! ### rules that the layer lacks: set(x), sorted(x) of a list or a tuple of ints; X() of an own exception; what the top says of exceptions -/
namespace JvS
open PySem PySem.Spec PyProof.Rows L2 SrtO
section
variable {P : Program} {w : World} {A : Around} {E : Value → Shared → Prop} {s : Shared}
/-- the empty set that set() begins with -/
abbrev emptyS (w : World) : Obj := { cls := .type "set", dict := none, data := .set #[] 0 (.fresh 0 0 (!w.params.followText "set-order")) }
theorem set_listI {l : Addr} {items : Array Value} (ns : List Int) {Q : Value → Shared → Prop} (hh : A.handled = none) (hl : s.heap.IsList l items) (hv : IntsAre items.toList ns) (few : ns.length + 1 < scanBound)
    (h : ∀ (h' : Heap) (tk c : Nat), SetR w h' s.heap.objs.size (fun j => decide (j ∈ ns)) c → c ≤ ns.length → (∀ b o, s.heap.get? b = some o → h'.get? b = some o) → Q (.ref s.heap.objs.size) { s with heap := h', toks := tk }) :
    wpAny (model P w) A (call (.type "set") [.ref l]) Q E s := by
  have sz : items.size = ns.length := by simpa using IntsAre.length hv
  obtain ⟨cM, tM, eM⟩ := F.called_set.mro
  have e1 := F.called_set.made; have e2 := F.called_set.sub; have e3 := F.called_set.notType; have e4 := F.called_set.canCreate; have e5 := F.typeCall_set_1 (.ref l)
  refine wpAny_call (codeAny_of_tree (show wpAny _ _ (callAny (.type "set") _) _ _ _ from wpAny_pure ⟨Code.quiet_builtin _ (by decide +kernel), codeAny_builtin F.entry_type_call ?_⟩))
  rw [Around.under_plain (weight_type_call_type "set" [.ref l] []) rfl]
  repeat any_goals (first | wp_step | assumption)
  refine codeAny_mono (code_set_led1 (P := P) (.ref l) (E := E) (Q₁ := fun v s1 => v = .ref s.heap.objs.size ∧ s1 = { s with heap := s.heap.push (emptyS w) }) ⟨rfl, rfl⟩) fun r s1 hr => ?_
  cases r with
  | error e => exact hr
  | ok fl =>
    cases fl with
    | next => exact hr.elim
    | brk => exact hr.elim
    | cont => exact hr.elim
    | ret v =>
      obtain ⟨rfl, rfl⟩ := hr
      have atS : (s.heap.push (emptyS w)).get? s.heap.objs.size = some (emptyS w) := Heap.get?_push_size _ rfl
      have tyS : Shared.TypeIs { s with heap := s.heap.push (emptyS w) } (.ref s.heap.objs.size) "set" := ⟨_, atS, rfl⟩
      have e6 := F.called_set.init.lookup; have e7 := F.called_set.init.bind (.ref s.heap.objs.size)
      repeat any_goals (first | wp_step | assumption)
      refine codeAny_mono (codeAny_call_builtin (R := wants (fun r s2 => r = .none ∧ ∃ h' tk c, s2 = { s with heap := h', toks := tk } ∧ SetR w h' s.heap.objs.size (fun j => decide (j ∈ ns)) c ∧ c ≤ ns.length ∧
        ∀ b o, s.heap.get? b = some o → h'.get? b = some o) E) F.called_set.init.plain F.entry_set_init (check_set_init_1 tyS ?_)) fun r2 s2 hr2 => ?_
      · have old : ∀ b o, s.heap.get? b = some o → (s.heap.push (emptyS w)).get? b = some o := fun b o q => Heap.get?_push_of_some _ q
        have lS : l < s.heap.objs.size := by obtain ⟨o, q, _⟩ := hl; exact Heap.lt_size q
        obtain ⟨⟨oc, od, dt, sl⟩, ol, q1, n1, q2⟩ := hl
        simp only at q1 q2; subst q1 q2
        have ol2 := old _ _ ol
        have isl : (s.heap.push (emptyS w)).IsList l items := ⟨_, ol2, rfl, n1, rfl⟩
        have b1 := F.sub_list_set; have b2 := F.sub_list_frozenset; have b3 : (Value.type "list" == Value.type "dict") = false := by decide
        unfold Builtin.«set.__init__» noKeywords Builtin.Frozenset.updateFrom
        generalize walkIt : pyIter = PI
        wp_walk
        subst walkIt
        refine wpAny_pyIter_list isl (wpAny_bind (wpAny_runValue ?_))
        have more : (s.heap.push (emptyS w)).objs.size = s.heap.objs.size + 1 := Heap.size_push ..
        have hh3 : A.in1.in1.in1.handled = none := by simp [hh]
        have lI : l ≠ (s.heap.push (emptyS w)).objs.size := by rw [more]; exact Nat.ne_of_lt (Nat.lt_succ_of_lt lS)
        have nS : s.heap.objs.size ∉ [(s.heap.push (emptyS w)).objs.size, l] := by
          rw [more]; simp only [List.mem_cons, List.not_mem_nil, or_false, not_or]
          exact ⟨Nat.ne_of_lt (Nat.lt_succ_self _), Nat.ne_of_gt lS⟩
        refine set_update_ints ((Walks.list hh3 _ l lI items).toS) s.heap.objs.size nS ns sz few (fun i v q => ?_) (items.size - 0) 0 _ (by omega) (Nat.zero_le _) ⟨⟨_, Heap.get?_push_size _ rfl, rfl, rfl⟩, isl.push _⟩ ⟨0, Nat.le_refl 0, setR_new_at (Heap.get?_push_of_some _ atS)⟩ fun s3 c hm hc hS => ?_
        · have hi : i < ns.length := by rw [← sz]; exact (Array.getElem?_eq_some_iff.mp q).1
          obtain ⟨t, e⟩ := PyProof.Rows.IntsAre.int_at hv i v (by rw [Array.getElem?_toList]; exact q)
          exact ⟨ns[i], t, List.getElem?_eq_getElem hi, by rw [e, List.getD_eq_getElem?_getD, List.getElem?_eq_getElem hi]; rfl⟩
        · obtain ⟨h3, g3, d3, t3, o3⟩ := s3
          obtain rfl : g3 = s.gens := hm.gens
          obtain rfl : d3 = s.drawn := hm.drawn
          obtain rfl : o3 = s.os := hm.os
          rw [sz] at hc
          refine wpAny_pure (show wpAny _ _ (ret Value.none) _ _ _ from wpAny_pure ⟨rfl, h3, t3, c, rfl, hS, hc, fun b o e => ?_⟩)
          have lb : b < s.heap.objs.size := Heap.lt_size e
          exact hm.heap b o (by
            rw [more]; simp only [List.mem_cons, List.not_mem_nil, or_false, not_or]
            exact ⟨Nat.ne_of_lt lb, Nat.ne_of_lt (Nat.lt_succ_of_lt lb)⟩) (Heap.get?_push_of_some _ (old _ _ e))
      · cases r2 with
        | error e => exact hr2
        | ok f2 =>
          cases f2 with
          | next => exact hr2.elim
          | brk => exact hr2.elim
          | cont => exact hr2.elim
          | ret r =>
            obtain ⟨rfl, h', tk, c, rfl, hS, hc, keep⟩ := hr2
            repeat any_goals (first | wp_step | assumption)
            exact h _ _ _ hS hc keep
end
end JvS
namespace Jv
open PySem PySem.Spec PyProof.Rows L2
section
variable {X : Cx}
/-- set(x), x a list or a tuple of ints -/
def rSetI (K : PySem.W.Frag) (w : World) : List V → Hp → VK → Prop := fun xs H Q => ∃ (l : Addr) (ns : List Int), xs = [.ref l] ∧ (SqL K H l (ns.map V.int) ∨ SqT K H l (ns.map V.int)) ∧ ns.length ≤ 1000 ∧
  ∀ p c, H p = none → c ≤ ns.length → Q (.ref p) (upd H p (SetO w p (fun j => decide (j ∈ ns)) c))
theorem cr_setI (hc : X.calm = true) : CallR X (.type "set") (rSetI X.K X.w) := by
  intro pins s σ H xs us Q I r h
  obtain ⟨l, ns, rfl, hs, few, q⟩ := h
  rw [Vals.ref1 r]
  have fin : ∀ (h' : Heap) (tk c : Nat), SetR X.w h' s.heap.objs.size (fun j => decide (j ∈ ns)) c → c ≤ ns.length → (∀ b o, s.heap.get? b = some o → h'.get? b = some o) →
      EP X pins σ Q (.ref s.heap.objs.size) { s with heap := h', toks := tk } := fun h' tk c R hcn keep =>
    ⟨.ref s.heap.objs.size, upd H s.heap.objs.size (SetO X.w s.heap.objs.size (fun j => decide (j ∈ ns)) c), I.laid (t' := tk) keep (Nat.le_refl _) (setO_new R), rfl, q _ c (I.hok.fresh (Nat.le_refl _)) hcn⟩
  rcases hs with hs | hs
  · obtain ⟨its, rv, hl, hz⟩ := I.list hs
    exact JvS.set_listI ns (I.ok.hd hc) hl.isList (by simpa using ints_of_vals rv) (by unfold scanBound; omega) fin
  · obtain ⟨its, rv, ht, hz⟩ := I.tuple hs
    exact call_set_tupI ns (I.ok.hd hc) (show s.heap.IsTuple l its.toArray from ht) (by simpa using ints_of_vals rv) (by unfold scanBound; omega) fin
/-- either of two rules for a call -/
theorem crOr {f : Value} {r r' : List V → Hp → VK → Prop} (h : CallR X f r) (h' : CallR X f r') : CallR X f (fun xs H Q => r xs H Q ∨ r' xs H Q) := fun pins s σ H xs us Q I rv q =>
  q.elim (fun q => h pins s σ H xs us Q I rv q) fun q => h' pins s σ H xs us Q I rv q
end
/-- an own error class without an __init__ of its own -/
structure ExcP (K : PySem.W.Frag) (C : Addr) : Prop where
  x : PySem.W.excIn K C [.type "ValueError", .type "Exception", .type "BaseException", .type "object"] "ValueError.__new__" = true
  k : PySem.W.keepIn K (.ref C) = true
  b : PySem.W.subIn K (.ref C) (.type "BaseException") = some true
  t : PySem.W.typeIn K (.ref C) = some (.type "type")
  i : PySem.W.isClsIn K C = true
  s : PySem.W.subIn K (.ref C) (.ref C) = some true
theorem exm_of {K : PySem.W.Frag} {C : Addr} (b : PySem.W.subIn K (.ref C) (.type "BaseException") = some true) (i : PySem.W.isClsIn K C = true) (t : PySem.W.typeIn K (.ref C) = some (.type "type")) (s : PySem.W.subIn K (.ref C) (.ref C) = some true) :
    PySem.W.exmOne K (.ref C) (.ref C) = some true := by
  have i' : (PySem.W.clsIn K C).isSome = true := i
  unfold PySem.W.exmOne PySem.W.kitCls
  simp [b, i', t, s]
theorem ExcP.e {K : PySem.W.Frag} {C : Addr} (h : ExcP K C) : PySem.W.exmOne K (.ref C) (.ref C) = some true := exm_of h.b h.i h.t h.s
theorem ExcP.raises {X : Cx} {C : Addr} (h : ExcP X.K C) : Raises X (.ref C) := raises_own h.b h.t
/-- .. with one, at fI -/
structure ExcI (K : PySem.W.Frag) (C fI : Addr) : Prop where
  o : OexC K C
  n : PySem.W.findIn K (.ref C) "__init__" = some (some (.ref fI))
  y : PySem.W.typeIn K (.ref fI) = some (.type "function")
  i : PySem.W.isClsIn K C = true
  s : PySem.W.subIn K (.ref C) (.ref C) = some true
  f : XfC K C
theorem ExcI.e {K : PySem.W.Frag} {C fI : Addr} (h : ExcI K C fI) : PySem.W.exmOne K (.ref C) (.ref C) = some true := exm_of h.o.exC h.i h.o.tyC h.s
section
variable {X : Cx}
/-- X() -/
theorem pmk_own0 {C : Addr} {bmB : List Value} {B newId initId : String} {x : Str} {p pos : Pos} (F : ExcBaseFacts B newId initId bmB) (q : PySem.W.excIn X.K C bmB newId = true) (gC : X.mg x = some (.ref C))
    (kC : PySem.W.keepIn X.K (.ref C) = true) (r : Raises X (.ref C)) (hg : Gl X x) (hdb : (x == ("__debug__" : Str)) = false := by decide) : PMk X (.Call (.Name x p) [] [] pos) (fun _ H Q => Q (.ref C) none H) := by
  intro pins s σ H Q I h
  refine wpAny_Call_Name_kw (ld_glob I hg gC (PySem.W.callWith_K0 I.kIn kC ?_) hdb)
  obtain ⟨bm, N, nm, qn, bs, hdct, sn, sub, ab, col, dd, k0, k1, k2, k3, k5, mN, hC, hN, hni, T⟩ := exc_obj I.kIn q
  exact wpAny_call_exc_subT F T hC hN hni (fun h' e hm => mk_of I hm r h (I.hok.gone hm.new)) (Nat.zero_le _)
end
end Jv

/-! ### binding with defaults -/
namespace Jv
open PySem PySem.Spec PyProof.Rows L2
section
variable {K : PySem.W.Frag} {fd : FuncData} {ps : List Str} {T : Addr} {o : Obj} {its : Array Value} {n : Nat}
theorem bindsD {ds : List Value} {m : Nat} (l : K.lookup T = some o) (hd : o.data = .seq its n) (hm : m + ds.length = ps.length)
    (h : ∀ us : List Value, us.length = m → ∃ k, bindArgs fd ⟨us, []⟩ = seqItems? (.ref T) >>= k ∧ k (some its) = pure (ps.zip (us ++ ds))) : Binds K fd ps ds := fun s us X hl => by
  obtain ⟨k, e1, e2⟩ := h us (by rw [List.length_append] at hl; omega)
  refine BindsTo.of_looks fun M => ?_
  rw [e1]
  exact looks_items X l hd (.of_pure e2)
theorem kbD {m : Nat} {ks : List Str} {g : List Value → List Value → List Value} {gV : List V → List V → List V} (l : K.lookup T = some o) (hd : o.data = .seq its n)
    (h : ∀ us ws : List Value, us.length = m → ws.length = ks.length → ∃ k, bindArgs fd ⟨us, ks.zip ws⟩ = seqItems? (.ref T) >>= k ∧ k (some its) = pure (ps.zip (g us ws)))
    (rel : ∀ {vs : List V} {us : List Value} {zs : List V} {ws : List Value}, Vals vs us → Vals zs ws → Vals (gV vs zs) (g us ws)) : KBn K fd ps m ks g gV := by
  refine ⟨fun s us ws X h1 h2 => ?_, rel⟩
  obtain ⟨k, e1, e2⟩ := h us ws h1 h2
  refine BindsTo.of_looks fun M => ?_
  rw [e1]
  exact looks_items X l hd (.of_pure e2)
end
end Jv
namespace Jv
open PySem PySem.Spec PyProof.Rows L2
section
variable {K : PySem.W.Frag} {σ : L2.St} {H : Hp} {D : Ends} {t u : TS} {te ta tb tc : TE} {g : TG} {tt tu : TT} {tA : TA} {i : Nat} {v x y z : V} {Q : VK} {R : Bool → Hp → Prop}
theorem r_gtup {T : Addr} {xs : List V} {n : Nat} {gs : TGs} {Q : L2.St → Hp → Prop} (h : SqT K H T xs) (hl : xs.length = n) (q : gs xs σ H Q) : gTup K n gs (.ref T) σ H Q := ⟨T, xs, rfl, h, hl, q⟩
theorem r_gcons {gs : TGs} {xs : List V} {Q : L2.St → Hp → Prop} (q : g v σ H fun σ' H' => gs xs σ' H' Q) : gCons g gs (v :: xs) σ H Q := ⟨v, xs, rfl, q⟩
theorem r_gnil {Q : L2.St → Hp → Prop} (q : Q σ H) : gNil [] σ H Q := ⟨rfl, q⟩
theorem r_lc {wi : TI} {vs : List Nat} (h : wi σ H fun J H1 => ∀ D, H1 D = none → ∃ W : Nat → Nat → Hp → Prop, (∃ m, W 0 m (upd H1 D (.lst []))) ∧ ∀ i m H, W i m H →
  (J.stop i H ∧ Q (.ref D) H) ∨ (J.go i H ∧ ∃ Nx : Hp → Prop, (∀ H', Nx H' → ∃ m', m' < m ∧ W (i + 1) m' H') ∧ ∀ x H', J.yld i H x H' → g x (wipe σ vs) H' fun σ2 H2 => wipe σ2 vs = wipe σ vs ∧ tt σ2 H2 fun b H3 =>
    if b = true then te σ2 H3 fun y H4 => ∃ acc, H4 D = some (.lst acc) ∧ acc.length < sizeLine ∧ Nx (upd H4 D (.lst (acc ++ [y]))) else Nx H3)) : tLc wi g tt te vs σ H Q := h
theorem r_iE {P : It → Hp → Prop} {a : Addr} {xs : List V} (h : SqL K H a xs) (q : P (Ite K a) H) : ∃ b ys, [V.ref a] = [.ref b] ∧ SqL K H b ys ∧ P (Ite K b) H := ⟨a, xs, rfl, h, q⟩
theorem r_iEn {P : It → Hp → Prop} (h : tA σ H fun vs H1 => ∃ b ys, vs = [.ref b] ∧ SqL K H1 b ys ∧ P (Ite K b) H1) : iEnum K tA σ H P := h
theorem r_iL {P : It → Hp → Prop} (h : te σ H fun x H1 => ∃ a, x = .ref a ∧ (∃ xs, SqL K H1 a xs) ∧ P (Itl K a) H1) : iList K te σ H P := h
theorem r_iT {P : It → Hp → Prop} (h : te σ H fun x H1 => ∃ a, x = .ref a ∧ (∃ xs, SqT K H1 a xs) ∧ P (Itt K a) H1) : iTup K te σ H P := h
theorem r_yes (q : R true H) : tYes σ H R := q
theorem r_abs {a : Int} {P : Int → Prop} (q : P (if a < 0 then -a else a)) : ∃ i, [V.int a] = [.int i] ∧ P (if i < 0 then -i else i) := ⟨a, rfl, q⟩
theorem r_ift {A B : Prop} (h : A) : if true = true then A else B := by rw [if_pos rfl]; exact h
theorem r_iff {A B : Prop} (h : B) : if false = true then A else B := by rw [if_neg Bool.false_ne_true]; exact h
end
end Jv
namespace Jv
open PySem PySem.Spec PyProof.Rows L2
section
variable {K : PySem.W.Frag} {H H' : Hp} {a p l : Addr} {xs : List V} {o u : HO}
theorem sqL_new (h : SqL K H a xs) (n : H p = none) : SqL K (upd H p u) a xs := (same_new n).seq h
theorem sqT_new (h : SqT K H a xs) (n : H p = none) : SqT K (upd H p u) a xs := Jv.Same.sqT (same_new n) h
theorem sqL_at (h : H a = some (.lst xs)) : SqL K H a xs := .inl (.inl h)
theorem sqT_at (h : H a = some (.tup xs)) : SqT K H a xs := .inl (.inl h)
theorem map_at {f : Int → V} {ns : List Int} {i : Nat} {x : V} (h : (ns.map f)[i]? = some x) : ∃ z, ns[i]? = some z ∧ x = f z := by
  rw [List.getElem?_map] at h
  cases e : ns[i]? with
  | none => rw [e] at h; cases h
  | some z => rw [e] at h; exact ⟨z, rfl, (Option.some.inj h).symm⟩
end
end Jv
namespace Jv
open PySem PySem.Spec PyProof.Rows L2
theorem r_wipe {σ1 σ2 : L2.St} {vs : List Nat} {P : Prop} (e : wipe σ1 vs = wipe σ2 vs) (q : P) : wipe σ1 vs = wipe σ2 vs ∧ P := ⟨e, q⟩
end Jv
namespace Jv
open PySem PySem.Spec PyProof.Rows L2
section
variable {K : PySem.W.Frag} {H : Hp}
def rLenK (K : PySem.W.Frag) : List V → Hp → VK → Prop := fun xs H Q => ∃ x n, xs = [x] ∧ LenV K x H n ∧ Q (.int n) H
theorem cr_len {X : Cx} : CallR X (.builtin "len") (rLenK X.K) := call_len
def rAbs : List V → Hp → VK → Prop := fun xs H Q => ∃ i, xs = [.int i] ∧ Q (.int (if i < 0 then -i else i)) H
theorem cr_abs {X : Cx} : CallR X (.builtin "abs") rAbs := call_abs
def rMin2 : List V → Hp → VK → Prop := fun xs H Q => ∃ i j, xs = [.int i, .int j] ∧ Q (.int (if j < i then j else i)) H
def rMax2 : List V → Hp → VK → Prop := fun xs H Q => ∃ i j, xs = [.int i, .int j] ∧ Q (.int (if j > i then j else i)) H
def rInt : List V → Hp → VK → Prop := fun xs H Q => (∃ i, xs = [.int i] ∧ Q (.int i) H) ∨ ∃ k, xs = [.bl k] ∧ Q (.int (if k then 1 else 0)) H
theorem cr_int {X : Cx} : CallR X (.type "int") rInt := call_int1
def rListOf (K : PySem.W.Frag) : List V → Hp → VK → Prop := fun xs H Q => ∃ p ys, xs = [.ref p] ∧ (SqL K H p ys ∨ SqT K H p ys) ∧ ∀ l, H l = none → Q (.ref l) (upd H l (.lst ys))
def rTupOf (K : PySem.W.Frag) : List V → Hp → VK → Prop := fun xs H Q => ∃ p ys, xs = [.ref p] ∧ ((SqL K H p ys ∧ ∀ l, H l = none → Q (.ref l) (upd H l (.tup ys))) ∨ (SqT K H p ys ∧ Q (.ref p) H))
section
variable {Q : VK}
theorem r_len {p : Addr} {xs : List V} (h : SqL K H p xs ∨ SqT K H p xs) (q : Q (.int xs.length) H) : rLenK K [V.ref p] H Q := ⟨_, xs.length, rfl, by
  rcases h with h | h
  · exact .inl ⟨xs, h, rfl⟩
  · exact .inr ⟨xs, h, rfl⟩, q⟩
theorem r_absN {a : Int} (q : Q (.int (if a < 0 then -a else a)) H) : rAbs [.int a] H Q := ⟨a, rfl, q⟩
theorem r_min {a b : Int} (q : Q (.int (if b < a then b else a)) H) : rMin2 [.int a, .int b] H Q := ⟨a, b, rfl, q⟩
theorem r_max {a b : Int} (q : Q (.int (if b > a then b else a)) H) : rMax2 [.int a, .int b] H Q := ⟨a, b, rfl, q⟩
theorem r_intN {a : Int} (q : Q (.int a) H) : rInt [.int a] H Q := .inl ⟨a, rfl, q⟩
theorem r_listOf {p : Addr} {ys : List V} (h : SqL K H p ys ∨ SqT K H p ys) (q : ∀ l, H l = none → Q (.ref l) (upd H l (.lst ys))) : rListOf K [.ref p] H Q := ⟨p, ys, rfl, h, q⟩
theorem r_tupOfL {p : Addr} {ys : List V} (h : SqL K H p ys) (q : ∀ l, H l = none → Q (.ref l) (upd H l (.tup ys))) : rTupOf K [.ref p] H Q := ⟨p, ys, rfl, .inl ⟨h, q⟩⟩
theorem r_tupOfT {p : Addr} {ys : List V} (h : SqT K H p ys) (q : Q (.ref p) H) : rTupOf K [.ref p] H Q := ⟨p, ys, rfl, .inr ⟨h, q⟩⟩
end
theorem r_decI {A B : Prop} {a b : Int} (h1 : a = b → A) (h2 : a ≠ b → B) : if decide (V.int a = V.int b) = true then A else B := r_dec (fun h => h1 (V.int.inj h)) fun h => h2 fun e => h (by rw [e])
theorem r_ndecI {A B : Prop} {a b : Int} (h1 : a ≠ b → A) (h2 : a = b → B) : if (!decide (V.int a = V.int b)) = true then A else B := r_ndec (fun h => h1 fun e => h (by rw [e])) fun h => h2 (V.int.inj h)
theorem ixN_of {n j : Nat} (hj : j < n) : ixN n (j : Int) = some j := by
  unfold ixN
  rw [if_pos (by omega), if_pos (by omega)]
  simp
end
end Jv
namespace Jv
open PySem PySem.Spec PyProof.Rows L2
theorem at_i {xs : List V} {k : Int} {v : V} (h0 : 0 ≤ k) (h : xs[k.toNat]? = some v) : atI xs k = some v := by
  rw [show k = ((k.toNat : Nat) : Int) by omega]
  exact atI_nat h
theorem map_get {f : Int → V} {ns : List Int} {i : Nat} (h : i < ns.length) : (ns.map f)[i]? = some (f ns[i]) := by
  rw [List.getElem?_map, List.getElem?_eq_getElem h]; rfl
end Jv

/-! ### things of any sort -/
namespace Jv
open PySem PySem.Spec PyProof.Rows L2
/-- a thing that a law hands in: a scalar, or a list, a tuple, a dict that stands -/
def Th (H : Hp) : V → Prop
  | .non => True
  | .bl _ => True
  | .int _ => True
  | .str _ => True
  | .ref a => (∃ xs, H a = some (.lst xs)) ∨ (∃ xs, H a = some (.tup xs)) ∨ ∃ kvs, H a = some (.dK kvs)
  | _ => False
def isB : V → Bool
  | .bl _ => true
  | _ => false
def isI : V → Bool
  | .int _ => true
  | _ => false
/-- a list or a tuple of xs -/
def Sq (H : Hp) (x : V) (xs : List V) : Prop := ∃ a, x = .ref a ∧ (H a = some (.lst xs) ∨ H a = some (.tup xs))
def sqOf (H : Hp) : V → Option (List V)
  | .ref a => match H a with
    | some (.lst xs) => some xs
    | some (.tup xs) => some xs
    | _ => none
  | _ => none
theorem sq_some {H : Hp} {x : V} {xs : List V} (h : sqOf H x = some xs) : Sq H x xs := by
  unfold sqOf at h
  split at h
  · rename_i a
    split at h
    · rename_i ys e; cases h; exact ⟨a, rfl, .inl e⟩
    · rename_i ys e; cases h; exact ⟨a, rfl, .inr e⟩
    · cases h
  · cases h
theorem Sq.of {H : Hp} {x : V} {xs : List V} (h : Sq H x xs) : sqOf H x = some xs := by
  obtain ⟨a, rfl, h | h⟩ := h <;> simp [sqOf, h]
theorem Sq.same {H H' : Hp} {x : V} {xs : List V} (h : Sq H x xs) (s : Same H H') : Sq H' x xs := by
  obtain ⟨a, rfl, h | h⟩ := h
  · exact ⟨a, rfl, .inl (s _ _ h)⟩
  · exact ⟨a, rfl, .inr (s _ _ h)⟩
theorem Sq.th {H : Hp} {x : V} {xs : List V} (h : Sq H x xs) : Th H x := by
  obtain ⟨a, rfl, h | h⟩ := h
  · exact .inl ⟨_, h⟩
  · exact .inr (.inl ⟨_, h⟩)
theorem Th.same {H H' : Hp} {x : V} (h : Th H x) (s : Same H H') : Th H' x := by
  cases x with
  | ref a =>
    rcases h with ⟨xs, h⟩ | ⟨xs, h⟩ | ⟨xs, h⟩
    · exact .inl ⟨xs, s _ _ h⟩
    · exact .inr (.inl ⟨xs, s _ _ h⟩)
    · exact .inr (.inr ⟨xs, s _ _ h⟩)
  | _ => exact h
theorem sqOf_same {H H' : Hp} {x : V} (h : Th H x) (s : Same H H') : sqOf H' x = sqOf H x := by
  cases x with
  | ref a => rcases h with ⟨xs, h⟩ | ⟨xs, h⟩ | ⟨xs, h⟩ <;> simp [sqOf, h, s _ _ h]
  | _ => rfl
section
variable {K : PySem.W.Frag} {H : Hp} {x : V} {Q : VK}
theorem th_ty (h : Th H x) : ∃ t, TyX K H x (.type t) ∧ kitB t "bool" = some (isB x) ∧ kitB t "int" = some (isB x || isI x) ∧ kitB t "list" = some (t == "list") ∧ kitB t "tuple" = some (t == "tuple") ∧ ((t == "list") || (t == "tuple")) = (sqOf H x).isSome := by
  cases x with
  | non => exact ⟨_, .base .non, (by decide +kernel : kitB "NoneType" "bool" = some false), (by decide +kernel : kitB "NoneType" "int" = some false), by decide +kernel, by decide +kernel, (by decide +kernel : (("NoneType" == "list") || ("NoneType" == "tuple")) = false)⟩
  | bl b => exact ⟨_, .base (.bl b), (by decide +kernel : kitB "bool" "bool" = some true), (by decide +kernel : kitB "bool" "int" = some true), by decide +kernel, by decide +kernel, (by decide +kernel : (("bool" == "list") || ("bool" == "tuple")) = false)⟩
  | int i => exact ⟨_, .base (.int i), (by decide +kernel : kitB "int" "bool" = some false), (by decide +kernel : kitB "int" "int" = some true), by decide +kernel, by decide +kernel, (by decide +kernel : (("int" == "list") || ("int" == "tuple")) = false)⟩
  | str i => exact ⟨_, .base (.str i), (by decide +kernel : kitB "str" "bool" = some false), (by decide +kernel : kitB "str" "int" = some false), by decide +kernel, by decide +kernel, (by decide +kernel : (("str" == "list") || ("str" == "tuple")) = false)⟩
  | ref a =>
    rcases h with ⟨xs, h⟩ | ⟨xs, h⟩ | ⟨xs, h⟩
    · exact ⟨_, .base (.lst h), (by decide +kernel : kitB "list" "bool" = some false), (by decide +kernel : kitB "list" "int" = some false), by decide +kernel, by decide +kernel, by simp [sqOf, h]⟩
    · exact ⟨_, .base (.tup h), (by decide +kernel : kitB "tuple" "bool" = some false), (by decide +kernel : kitB "tuple" "int" = some false), by decide +kernel, by decide +kernel, by simp [sqOf, h]⟩
    · exact ⟨_, .base (.dK h), (by decide +kernel : kitB "dict" "bool" = some false), (by decide +kernel : kitB "dict" "int" = some false), by decide +kernel, by decide +kernel, by simp [sqOf, h]⟩
  | byt _ => exact h.elim
  | flt _ => exact h.elim
  | ty _ => exact h.elim
theorem r_isB (h : Th H x) (q : Q (.bl (isB x)) H) : rIsi K [x, .ty "bool"] H Q := by
  obtain ⟨t, h1, h2, _⟩ := th_ty (K := K) h
  exact ⟨x, _, _, _, _, rfl, .ty _, h1, kit_ty h2, q⟩
theorem r_isI (h : Th H x) (q : Q (.bl (isB x || isI x)) H) : rIsi K [x, .ty "int"] H Q := by
  obtain ⟨t, h1, _, h2, _⟩ := th_ty (K := K) h
  exact ⟨x, _, _, _, _, rfl, .ty _, h1, kit_ty h2, q⟩
theorem r_isS {p : Addr} (hp : H p = some (.tup [.ty "list", .ty "tuple"])) (h : Th H x) (q : Q (.bl (sqOf H x).isSome) H) : rIsiT K [x, .ref p] H Q := by
  obtain ⟨t, h1, _, _, h2, h3, h4⟩ := th_ty (K := K) h
  refine ⟨x, p, _, _, _, (sqOf H x).isSome, rfl, hp, .cons (.ty _) (.cons (.ty _) .nil), h1, ?_, q⟩
  refine kitAny_cons (kit_ty h2) (fun e => ?_) fun e => by rw [← h4, e]; rfl
  refine kitAny_cons (kit_ty h3) (fun e2 => ?_) fun e2 => by rw [← h4, e2, Bool.or_true]
  rw [kitAny_nil, ← h4, e, e2]; rfl
theorem r_rfl {a : V} {P : Prop} (q : P) : a = a ∧ P := ⟨rfl, q⟩
end
/-- is_whole's answer -/
def loOk : V → Int → Bool
  | .int l, i => decide (l ≤ i)
  | _, _ => true
def hiOk : V → Int → Bool
  | .int l, i => decide (i ≤ l)
  | _, _ => true
def wholeV : V → V → V → Bool
  | .int i, lo, hi => loOk lo i && hiOk hi i
  | _, _, _ => false
def Bd (x : V) : Prop := x = .non ∨ ∃ i, x = .int i
theorem wholeV_int {x : V} {l h : Int} : wholeV x (.int l) (.int h) = true → ∃ i, x = .int i ∧ l ≤ i ∧ i ≤ h := by
  intro q
  cases x with
  | int i => simp [wholeV, loOk, hiOk] at q; exact ⟨i, rfl, q⟩
  | _ => cases q
end Jv
namespace Jv
open PySem PySem.Spec PyProof.Rows L2
theorem wholeV_lo0 {i a : Int} {hi : V} (h : i < a) : wholeV (.int i) (.int a) hi = false := by
  show (decide (a ≤ i) && hiOk hi i) = false
  rw [decide_eq_false (by omega), Bool.false_and]
theorem wholeV_lo1 {i a : Int} {hi : V} (h : ¬ i < a) : wholeV (.int i) (.int a) hi = hiOk hi i := by
  show (decide (a ≤ i) && hiOk hi i) = _
  rw [decide_eq_true (by omega), Bool.true_and]
theorem r_dec1 {A B p : Prop} {_ : Decidable p} (h : p) (q : A) : if decide p = true then A else B := r_true (decide_eq_true h) q
theorem r_dec0 {A B p : Prop} {_ : Decidable p} (h : ¬ p) (q : B) : if decide p = true then A else B := r_false (decide_eq_false h) q
end Jv

/-! ### walks over a list or a tuple; comprehensions whose elements are told by a function -/
namespace Jv
open PySem PySem.Spec PyProof.Rows L2
theorem piOr {X : Cx} {tg it : Expr} {w1 w2 : TI} (h : PI X tg it w1) (h' : PI X tg it w2) : PI X tg it (fun σ H R => w1 σ H R ∨ w2 σ H R) := ⟨fun pins s σ H R I q => q.elim (h.run pins s σ H R I) (h'.run pins s σ H R I)⟩
section
variable {K : PySem.W.Frag} {σ : L2.St} {H : Hp} {te : TE} {Q : VK} {xs : List V} {j i : Nat} {x : V}
theorem wipe1 {v : Option V} : wipe ((σ.set j none).set j v) [j] = wipe σ [j] := by
  show ((σ.set j none).set j v).set j none = σ.set j none
  rw [List.set_set, List.set_set]
theorem take_more {α : Type} {l : List α} {i : Nat} {x : α} (h : l[i]? = some x) : l.take (i + 1) = l.take i ++ [x] := by
  rw [List.take_add_one, h]; rfl
theorem lcF {J : It} {G : Hp → Prop} (w : Walk J xs.length G (YAt xs)) (hG : ∀ H', Same H H' → G H') (f : V → V) (few : xs.length ≤ 1000)
    (hs : ∀ v H1, v ∈ xs → Same H H1 → ∀ P : VK, (∀ H2, Same H1 H2 → P (f v) H2) → te ((σ.set j none).set j (some v)) H1 P)
    (hd : ∀ D H1, Same H H1 → H D = none → H1 D = some (.lst (xs.map f)) → Q (.ref D) H1) : ∀ D, H D = none → ∃ W : Nat → Nat → Hp → Prop, (∃ m, W 0 m (upd H D (.lst []))) ∧ ∀ i m H, W i m H →
      (J.stop i H ∧ Q (.ref D) H) ∨ (J.go i H ∧ ∃ Nx : Hp → Prop, (∀ H', Nx H' → ∃ m', m' < m ∧ W (i + 1) m' H') ∧ ∀ x H', J.yld i H x H' → gName j x (wipe σ [j]) H' fun σ2 H2 => wipe σ2 [j] = wipe σ [j] ∧ tYes σ2 H2 fun b H3 =>
        if b = true then te σ2 H3 fun y H4 => ∃ acc, H4 D = some (.lst acc) ∧ acc.length < sizeLine ∧ Nx (upd H4 D (.lst (acc ++ [y]))) else Nx H3) := by
  intro D hD
  refine lc_it w (fun i H1 => Same H H1 ∧ H1 D = some (.lst ((xs.take i).map f))) ⟨same_new hD, upd_same⟩ (fun i H1 _ h => hG H1 h.1) ?_ ?_
  · rintro i x H1 H2 hi ⟨s1, e1⟩ ⟨rfl, hx⟩
    refine ⟨wipe1, ?_⟩
    refine r_yes ?_
    refine r_true (c := true) rfl ?_
    refine hs x _ (List.mem_of_getElem? hx) s1 _ fun H3 s3 => ⟨_, s3 _ _ e1, ?_, ?_, ?_⟩
    · rw [List.length_map, List.length_take]; exact small_lt (by omega)
    · intro b o e; exact kpO (s3 _ _ (s1 b o e)) (ne_of_none e hD)
    · rw [upd_same, take_more hx, List.map_append]; rfl
  · rintro H1 ⟨s1, e1⟩
    rw [List.take_length] at e1
    exact hd D H1 s1 hD e1
/-- over a name that holds a list | a tuple | either -/
theorem lcL {a : Addr} (hv : σ[i]? = some (some (.ref a))) (hx : SqL K H a xs) (f : V → V) (few : xs.length ≤ 1000)
    (hs : ∀ v H1, v ∈ xs → Same H H1 → ∀ P : VK, (∀ H2, Same H1 H2 → P (f v) H2) → te ((σ.set j none).set j (some v)) H1 P)
    (hd : ∀ D H1, Same H H1 → H D = none → H1 D = some (.lst (xs.map f)) → Q (.ref D) H1) : tLc (iList K (tVar i)) (gName j) tYes te [j] σ H Q :=
  ⟨_, hv, a, rfl, ⟨xs, hx⟩, lcF walk_list (fun H' s => s.seq hx) f few hs hd⟩
theorem lcT {a : Addr} (hv : σ[i]? = some (some (.ref a))) (hx : SqT K H a xs) (f : V → V) (few : xs.length ≤ 1000)
    (hs : ∀ v H1, v ∈ xs → Same H H1 → ∀ P : VK, (∀ H2, Same H1 H2 → P (f v) H2) → te ((σ.set j none).set j (some v)) H1 P)
    (hd : ∀ D H1, Same H H1 → H D = none → H1 D = some (.lst (xs.map f)) → Q (.ref D) H1) : tLc (iTup K (tVar i)) (gName j) tYes te [j] σ H Q :=
  ⟨_, hv, a, rfl, ⟨xs, hx⟩, lcF walk_tup (fun H' s => Jv.Same.sqT s hx) f few hs hd⟩
theorem lcS (hv : σ[i]? = some (some x)) (hx : Sq H x xs) (f : V → V) (few : xs.length ≤ 1000)
    (hs : ∀ v H1, v ∈ xs → Same H H1 → ∀ P : VK, (∀ H2, Same H1 H2 → P (f v) H2) → te ((σ.set j none).set j (some v)) H1 P)
    (hd : ∀ D H1, Same H H1 → H D = none → H1 D = some (.lst (xs.map f)) → Q (.ref D) H1) : tLc (fun σ H R => iList K (tVar i) σ H R ∨ iTup K (tVar i) σ H R) (gName j) tYes te [j] σ H Q := by
  obtain ⟨a, rfl, h | h⟩ := hx
  · exact .inl (lcL hv (sqL_at h) f few hs hd)
  · exact .inr (lcT hv (sqT_at h) f few hs hd)
theorem r_all {D : Addr} {f : V → Bool} (h : H D = some (.lst (xs.map fun v => V.bl (f v)))) (q : Q (.bl (xs.all f)) H) : rAll K [.ref D] H Q := by
  refine ⟨D, xs.map f, rfl, sqL_at (by rw [h, List.map_map]; rfl), ?_⟩
  rw [List.all_map]; exact q
theorem Sq.len (h : Sq H x xs) (q : Q (.int xs.length) H) : rLenK K [x] H Q := by
  obtain ⟨a, rfl, h | h⟩ := h
  · exact r_len (.inl (sqL_at h)) q
  · exact r_len (.inr (sqT_at h)) q
theorem Sq.ix (h : Sq H x xs) {k : Int} {v : V} (e : atI xs k = some v) (q : Q v H) : rIx K x (.int k) H Q := by
  obtain ⟨a, rfl, h | h⟩ := h
  · exact .inl (r_ixL (sqL_at h) e q)
  · exact .inr (.inl (r_ixT (sqT_at h) e q))
end
end Jv

/-! ### sorted(t) of a tuple of ints -/
namespace JvS
open PySem PySem.Spec PyProof.Rows L2 SrtO
section
variable {P : Program} {w : World} {A : Around} {E : Value → Shared → Prop} {s : Shared}
/-- the list that collect makes -/
abbrev colH (h : Heap) (vs : List Value) : Heap := (h.push (seqObj "list" #[] 0)).update h.objs.size (Obj.mapSeq (· ++ vs.toArray))
theorem collect_tup {l : Addr} {vs : List Value} {Q : List Value → Shared → Prop} (hl : s.heap.IsTuple l vs.toArray) (h : Q vs { s with heap := colH s.heap vs }) (hsz : vs.length ≤ sizeLine) :
    wpAny (model P w) A (collect (.ref l)) Q E s := by
  obtain ⟨o, ho, hc, n, hd⟩ := id hl
  have ho2 : (s.heap.push (seqObj "list" #[] 0)).get? l = some o := Heap.get?_push_of_some _ ho
  have new : (s.heap.push (seqObj "list" #[] 0)).get? s.heap.objs.size = some (seqObj "list" #[] 0) := Heap.get?_push_size _ rfl
  unfold collect
  refine wpAny_bind (wpAny_runValue (codeAny_builtin entry_proto_collect' (show wpAny _ _ (do again (.builtin "list.__iadd__" ⟨[← newList [], .ref l], []⟩)) _ _ s from
    wpAny_bind (wpAny_newList (wpAny_pure ⟨Code.quiet_builtin _ (by decide +kernel), codeAny_builtin entry_list_iadd' ?_⟩)))))
  show wpAny _ _ (Builtin.List.listExtendWith (.ref s.heap.objs.size) (.ref l) (.ref s.heap.objs.size)) _ _ { s with heap := s.heap.push (seqObj "list" #[] 0) }
  unfold Builtin.List.listExtendWith
  refine wpAny_bind (wpAny_typeOf (T := "tuple") ⟨o, ho2, hc⟩ ?_)
  rw [if_pos (by have e : (Value.type "tuple" == Value.type "tuple") = true := rfl
                 rw [e]; simp)]
  refine wpAny_bind (listItems_at ho2 hd (wpAny_bind (listItems_at (xs := #[]) (n := 0) new rfl ?_)))
  rw [if_neg (by simp)]
  refine wpAny_bind (listUpdate_at (xs := #[]) (n := 0) new rfl (wpAny_pure ?_) (Nat.zero_le _) (by show (#[] ++ vs.toArray).size ≤ sizeLine + 1; simp; omega))
  show wpAny (model P w) A (do
      let o ← load s.heap.objs.size
      match o.data with
      | .seq ys _ => pure ys.toList
      | _ => unsupported "internal:collect") Q E { s with heap := colH s.heap vs }
  refine wpAny_bind (wpAny_load (get?_update_seq new _) (show wpAny _ _ (pure ((#[] : Array Value) ++ vs.toArray).toList) Q E _ from ?_))
  rw [show ((#[] : Array Value) ++ vs.toArray).toList = vs by simp]
  exact wpAny_pure h
theorem sorted_tup {l : Addr} {vs : List Value} {ltv : Value → Value → Bool} {Q : Value → Shared → Prop} (O : Swo ltv) (hl : s.heap.IsTuple l vs.toArray) (hz : vs.length ≤ sizeLine)
    (hS : 2 ≤ vs.length → ∀ (h₁ : Heap) (a : Addr), h₁.get? a = some (seqObj "list" vs.toArray 0) → (∀ b o, s.heap.get? b = some o → b ≠ a ∧ h₁.get? b = some o) → SortableO P w A.in1.in1 { s with heap := h₁ } a vs ltv)
    (h : ∀ out : List Value, Srtd ltv out → Stb ltv out vs → Q (.ref (s.heap.objs.size + 1)) { s with heap := sortedAll s.heap vs out.toArray }) :
    wpAny (model P w) A (call (.builtin "sorted") [.ref l]) Q E s := by
  refine Calls.call_function_entry kind_sorted plain_sorted entry_sorted (args_sorted1 _) ?_
  unfold Builtin.«sorted»
  refine wpAny_bind (m := checkCount "sorted" 1 1 _) (wpAny_pure (wpAny_bind (collect_tup hl (wpAny_bind (wpAny_newList ?_ hz)) hz)))
  have size1 : (colH s.heap vs).objs.size = s.heap.objs.size + 1 := by rw [Heap.size_update, size_push']
  have at2 : ((colH s.heap vs).push (seqObj "list" vs.toArray 0)).get? (s.heap.objs.size + 1) = some (seqObj "list" vs.toArray 0) := by
    rw [← size1]; exact Heap.get?_push_size _ rfl
  have old : ∀ b o, s.heap.get? b = some o → b ≠ s.heap.objs.size + 1 ∧ ((colH s.heap vs).push (seqObj "list" vs.toArray 0)).get? b = some o := fun b o q => by
    have lt := Heap.lt_size q
    refine ⟨Nat.ne_of_lt (Nat.lt_succ_of_lt lt), Heap.get?_push_of_some _ ?_⟩
    rw [Heap.get?_update_ne _ _ _ _ (Nat.ne_of_lt lt)]
    exact Heap.get?_push_of_some _ q
  show wpAny _ _ _ _ _ { s with heap := (colH s.heap vs).push (seqObj "list" vs.toArray 0) }
  rw [size1]
  refine wpAny_bind (wpAny_holding (wpAny_call_entry slot_list_sort ⟨_, at2, rfl⟩ entry_list_sort (list_sort_ord O at2 hz (fun h2 => hS h2 _ _ at2 old) fun out a b => ⟨_, rfl, wpAny_pure ⟨_, rfl, h out a b⟩⟩) (args_list_sort _)))
end
end JvS
namespace Jv
open PySem PySem.Spec PyProof.Rows L2
section
variable {X : Cx}
/-- sorted(x), x a list or a tuple of ints -/
def rSortIT (K : PySem.W.Frag) : List V → Hp → VK → Prop := fun vs H Q => ∃ (a : Addr) (ns : List Int), vs = [V.ref a] ∧ (SqL K H a (ns.map V.int) ∨ SqT K H a (ns.map V.int)) ∧
  ∀ (ns' : List Int) (p : Addr), ns'.Perm ns → ns'.Pairwise (· ≤ ·) → H p = none → Q (.ref p) (upd H p (.lst (ns'.map V.int)))
theorem cr_sortIT : CallR X (.builtin "sorted") (rSortIT X.K) := by
  intro pins s σ H vs us Q I r h
  obtain ⟨a, ns, rfl, hs | hs, q⟩ := h
  · exact cr_sortedI pins s σ H _ us Q I r ⟨a, ns, rfl, hs, q⟩
  · obtain ⟨its, rv, ht, hz⟩ := I.tuple hs
    rw [Vals.ref1 r]
    have hi := rv.ints
    rw [List.length_map] at hz
    have hz2 : its.length ≤ sizeLine := by rw [← rv.length, List.length_map]; exact hz
    refine JvS.sorted_tup SrtO.swo_int (show s.heap.IsTuple a its.toArray from ht) hz2 (fun h2 _ _ _ _ => SrtO.ints_sortable hi h2) fun out h1 h2 => ?_
    obtain ⟨k1, k2, k3⟩ := SrtO.ints_out hi h1 h2
    obtain ⟨ep, he⟩ := PyProof.Rows.sortedAll_at s.heap its out.toArray
    refine ⟨.ref _, upd H (s.heap.objs.size + 1) (.lst ((out.map SrtO.iv).map V.int)), I.laid (t' := s.toks) (fun _ _ => PyProof.Rows.sortedAll_old) (Nat.le_succ _) ⟨?_, out, ep, vals_of_ints k1, he⟩, rfl, q _ _ k2 k3 (I.hok.fresh (Nat.le_succ _))⟩
    rw [List.length_map, k2.length_eq]; exact hz
end
/-! ### data of ints -/
theorem canAll_ints : ∀ ns : List Int, PyData.canLayAll0 (ns.map PyData.int) = true
  | [] => by simp [PyData.canLayAll0]
  | a :: r => by simp [PyData.canLayAll0, PyData.canLay0, canAll_ints r]
theorem depAll_ints : ∀ ns : List Int, PyData.depthAll (ns.map PyData.int) = 0
  | [] => by simp [PyData.depthAll]
  | a :: r => by simp [PyData.depthAll, PyData.depth, depAll_ints r]
theorem shapedL (ns : List Int) : SeqAt.shaped (.list (ns.map .int)) = true := by simp [SeqAt.shaped, PyData.canLay0, PyData.depth, canAll_ints, depAll_ints]
theorem shapedT (ns : List Int) : SeqAt.shaped (.tuple (ns.map .int)) = true := by simp [SeqAt.shaped, PyData.canLay0, PyData.depth, canAll_ints, depAll_ints]
theorem eqvAll_ints : ∀ a b : List Int, PyData.eqvAll (a.map .int) (b.map .int) = decide (a = b)
  | [], [] => by simp [PyData.eqvAll]
  | [], _ :: _ => by simp [PyData.eqvAll]
  | _ :: _, [] => by simp [PyData.eqvAll]
  | x :: a, y :: b => by
    simp only [List.map_cons, PyData.eqvAll, PyData.eqv, eqvAll_ints a b]
    by_cases h : x = y <;> by_cases g : a = b <;> simp [h, g]
theorem eqvL (a b : List Int) : PyData.eqv (.list (a.map .int)) (.list (b.map .int)) = decide (a = b) := by rw [PyData.eqv, eqvAll_ints]
theorem eqvT (a b : List Int) : PyData.eqv (.tuple (a.map .int)) (.tuple (b.map .int)) = decide (a = b) := by rw [PyData.eqv, eqvAll_ints]
section
variable {K : PySem.W.Frag} {H : Hp}
theorem dpAll_ints : ∀ ns : List Int, DpAll K H (ns.map V.int) (ns.map PyData.int)
  | [] => .nil
  | a :: r => .cons (.int a) (dpAll_ints r)
theorem dpL {a : Addr} {ns : List Int} (h : SqL K H a (ns.map V.int)) : Dp K H (.ref a) (.list (ns.map .int)) := .lst h (dpAll_ints ns)
theorem dpT {a : Addr} {ns : List Int} (h : SqT K H a (ns.map V.int)) : Dp K H (.ref a) (.tuple (ns.map .int)) := .tup h (dpAll_ints ns)
end
end Jv

/-! ### kinds, lots, orders -/
namespace Jv
open PySem PySem.Spec PyProof.Rows L2
def intsV : List V → Option (List Int)
  | [] => some []
  | .int i :: r => (intsV r).map (i :: ·)
  | _ :: _ => none
theorem iv_map : ∀ ns : List Int, intsV (ns.map V.int) = some ns
  | [] => rfl
  | a :: r => by simp [intsV, iv_map r]
theorem iv_of : ∀ {xs : List V} {ns : List Int}, intsV xs = some ns → xs = ns.map V.int
  | [], ns, h => by cases h; rfl
  | .int i :: r, ns, h => by
    cases e : intsV r with
    | none => simp [intsV, e] at h
    | some m => simp [intsV, e] at h; subst h; rw [iv_of e]; rfl
  | .non :: _, _, h => by cases h
  | .bl _ :: _, _, h => by cases h
  | .str _ :: _, _, h => by cases h
  | .byt _ :: _, _, h => by cases h
  | .flt _ :: _, _, h => by cases h
  | .ref _ :: _, _, h => by cases h
  | .ty _ :: _, _, h => by cases h
/-- what a sequence's items must be for the program to look at them -/
def ThS (H : Hp) (x : V) : Prop := Th H x ∧ ∀ xs, Sq H x xs → xs.length ≤ 60 ∧ ∀ v ∈ xs, Th H v
theorem ThS.same {H H' : Hp} {x : V} (h : ThS H x) (s : Same H H') : ThS H' x := ⟨h.1.same s, fun xs q => by
  have e := q.of
  rw [sqOf_same h.1 s] at e
  obtain ⟨a, b⟩ := h.2 xs (sq_some e)
  exact ⟨a, fun v m => (b v m).same s⟩⟩
def kindsB (H : Hp) (x : V) (k : Int) : Bool := match sqOf H x with
  | some xs => xs.all fun v => wholeV v (.int 0) (.int (k - 1))
  | none => false
def inK (k : Int) (ns : List Int) : Prop := ∀ n ∈ ns, 0 ≤ n ∧ n ≤ k - 1
theorem whole_all {k : Int} : ∀ {xs : List V}, (xs.all fun v => wholeV v (.int 0) (.int (k - 1))) = true → ∃ ns, xs = ns.map V.int ∧ inK k ns
  | [], _ => ⟨[], rfl, fun _ h => by cases h⟩
  | x :: r, h => by
    rw [List.all_cons, Bool.and_eq_true] at h
    obtain ⟨i, rfl, h1, h2⟩ := wholeV_int h.1
    obtain ⟨ns, rfl, h3⟩ := whole_all h.2
    refine ⟨i :: ns, rfl, fun n hn => ?_⟩
    rcases List.mem_cons.mp hn with rfl | hn
    · exact ⟨h1, h2⟩
    · exact h3 n hn
theorem all_whole {k : Int} {ns : List Int} (h : inK k ns) : ((ns.map V.int).all fun v => wholeV v (.int 0) (.int (k - 1))) = true := by
  rw [List.all_map, List.all_eq_true]
  intro n hn
  obtain ⟨a, b⟩ := h n hn
  show (decide (0 ≤ n) && decide (n ≤ k - 1)) = true
  rw [decide_eq_true a, decide_eq_true b]; rfl
instance {k : Int} {ns : List Int} : Decidable (inK k ns) := inferInstanceAs (Decidable (∀ n ∈ ns, _))
theorem whole_all_iff {k : Int} {ns : List Int} : ((ns.map V.int).all fun v => wholeV v (.int 0) (.int (k - 1))) = decide (inK k ns) := by
  by_cases h : inK k ns
  · rw [all_whole h, decide_eq_true h]
  · rw [decide_eq_false h]
    cases e : (ns.map V.int).all fun v => wholeV v (.int 0) (.int (k - 1)) with
    | false => rfl
    | true =>
      obtain ⟨ms, e2, h2⟩ := whole_all e
      have e3 : ns = ms := by have q := iv_map ns; rw [e2, iv_map] at q; cases q; rfl
      exact absurd (e3 ▸ h2) h
theorem sorted_ext : ∀ {a b : List Int}, a.Pairwise (· < ·) → b.Pairwise (· < ·) → (∀ n, n ∈ a ↔ n ∈ b) → a = b
  | [], [], _, _, _ => rfl
  | [], y :: _, _, _, h => absurd ((h y).mpr List.mem_cons_self) (by simp)
  | x :: _, [], _, _, h => absurd ((h x).mp List.mem_cons_self) (by simp)
  | x :: a, y :: b, ha, hb, h => by
    have ha' := List.pairwise_cons.mp ha
    have hb' := List.pairwise_cons.mp hb
    have e : x = y := by
      rcases List.mem_cons.mp ((h x).mp List.mem_cons_self) with e | m1
      · exact e
      · rcases List.mem_cons.mp ((h y).mpr List.mem_cons_self) with e | m2
        · exact e.symm
        · have q1 := hb'.1 x m1
          have q2 := ha'.1 y m2
          omega
    subst e
    congr 1
    refine sorted_ext ha'.2 hb'.2 fun n => ⟨fun m => ?_, fun m => ?_⟩
    · rcases List.mem_cons.mp ((h n).mp (List.mem_cons_of_mem _ m)) with e | q
      · subst e; exact absurd (ha'.1 n m) (by omega)
      · exact q
    · rcases List.mem_cons.mp ((h n).mpr (List.mem_cons_of_mem _ m)) with e | q
      · subst e; exact absurd (hb'.1 n m) (by omega)
      · exact q
def lotP (k : Int) (ns : List Int) : Prop := inK k ns ∧ 0 < ns.length ∧ ns.Pairwise (· < ·)
instance {k : Int} {ns : List Int} : Decidable (lotP k ns) := inferInstanceAs (Decidable (_ ∧ _))
def lotV (H : Hp) (x : V) (k : Int) : Bool := match sqOf H x with
  | some xs => match intsV xs with
    | some ns => decide (lotP k ns)
    | none => false
  | none => false
theorem set_eq {ns ms : List Int} (h1 : ms.Pairwise (· < ·)) (h2 : ∀ k : Int, k ∈ ms ↔ decide (k ∈ ns) = true) : (ns = ms) ↔ ns.Pairwise (· < ·) :=
  ⟨fun e => e ▸ h1, fun h => sorted_ext h h1 fun n => by rw [h2 n, decide_eq_true_iff]⟩
def orderP (k : Int) (ns : List Int) : Prop := inK k ns ∧ ns.Perm ((List.range k.toNat).map fun (i : Nat) => (i : Int))
instance {k : Int} {ns : List Int} : Decidable (orderP k ns) := inferInstanceAs (Decidable (_ ∧ _))
theorem range_sorted (n : Nat) : ((List.range n).map fun (i : Nat) => (i : Int)).Pairwise (· ≤ ·) := by
  rw [List.pairwise_map]
  exact List.pairwise_lt_range.imp fun h => by omega
theorem sorted_perm {a b : List Int} (ha : a.Pairwise (· ≤ ·)) (hb : b.Pairwise (· ≤ ·)) (h : a.Perm b) : a = b :=
  List.Perm.eq_of_pairwise (fun x y _ _ h1 h2 => by omega) ha hb h
def orderV (H : Hp) (x : V) (k : Int) : Bool := match sqOf H x with
  | some xs => match intsV xs with
    | some ns => decide (orderP k ns)
    | none => false
  | none => false
end Jv
namespace Jv
open PySem PySem.Spec PyProof.Rows L2
section
variable {H : Hp} {x : V} {k : Int} {ns : List Int}
theorem lotV_of (e : sqOf H x = some (ns.map V.int)) : lotV H x k = decide (lotP k ns) := by
  unfold lotV; rw [e]; dsimp only; rw [iv_map]
theorem orderV_of (e : sqOf H x = some (ns.map V.int)) : orderV H x k = decide (orderP k ns) := by
  unfold orderV; rw [e]; dsimp only; rw [iv_map]
theorem kindsB_of (e : sqOf H x = some (ns.map V.int)) : kindsB H x k = decide (inK k ns) := by
  unfold kindsB; rw [e]; exact whole_all_iff
theorem kindsB_true (h : kindsB H x k = true) : ∃ ns, sqOf H x = some (ns.map V.int) ∧ inK k ns := by
  unfold kindsB at h
  cases e : sqOf H x with
  | none => rw [e] at h; cases h
  | some xs =>
    rw [e] at h
    obtain ⟨ns, rfl, q⟩ := whole_all h
    exact ⟨ns, rfl, q⟩
theorem lotV_false (h : kindsB H x k = false) : lotV H x k = false := by
  cases e : sqOf H x with
  | none => unfold lotV; rw [e]
  | some xs =>
    cases e2 : intsV xs with
    | none => unfold lotV; rw [e]; dsimp only; rw [e2]
    | some ns =>
      obtain rfl := iv_of e2
      rw [lotV_of e, decide_eq_false]
      rintro ⟨h1, _⟩
      rw [kindsB_of e, decide_eq_true h1] at h; cases h
theorem orderV_false (h : kindsB H x k = false) : orderV H x k = false := by
  cases e : sqOf H x with
  | none => unfold orderV; rw [e]
  | some xs =>
    cases e2 : intsV xs with
    | none => unfold orderV; rw [e]; dsimp only; rw [e2]
    | some ns =>
      obtain rfl := iv_of e2
      rw [orderV_of e, decide_eq_false]
      rintro ⟨h1, _⟩
      rw [kindsB_of e, decide_eq_true h1] at h; cases h
theorem lotV_true (h : lotV H x k = true) : ∃ ns, sqOf H x = some (ns.map V.int) ∧ lotP k ns := by
  cases e : sqOf H x with
  | none => unfold lotV at h; rw [e] at h; cases h
  | some xs =>
    cases e2 : intsV xs with
    | none => unfold lotV at h; rw [e] at h; dsimp only at h; rw [e2] at h; cases h
    | some ns =>
      obtain rfl := iv_of e2
      rw [lotV_of e] at h
      exact ⟨ns, rfl, of_decide_eq_true h⟩
theorem Sq.or {K : PySem.W.Frag} {a : Addr} {xs : List V} (h : H a = some (.lst xs) ∨ H a = some (.tup xs)) : SqL K H a xs ∨ SqT K H a xs := h.elim (fun h => .inl (sqL_at h)) fun h => .inr (sqT_at h)
end
end Jv
namespace Jv
open PySem PySem.Spec PyProof.Rows L2
theorem rgV0 {k : Int} : rgV 0 k = ((List.range k.toNat).map fun (i : Nat) => (i : Int)).map V.int := by
  unfold rgV
  rw [List.map_map, Int.sub_zero]
  refine List.map_congr_left fun i _ => ?_
  show V.int (0 + (i : Int)) = V.int i
  rw [Int.zero_add]
end Jv

/-! ### pairs of two ranges; data as lists of pairs -/
namespace Jv
open PySem PySem.Spec PyProof.Rows L2
/-- references to tuples of two ints that stand -/
def Tups (H : Hp) (refs : List V) (prs : List (Int × Int)) : Prop := Paired (fun v (pr : Int × Int) => ∃ t, v = V.ref t ∧ H t = some (.tup [.int pr.1, .int pr.2])) refs prs
theorem Paired.mono' {α β : Type} {F G : α → β → Prop} (h : ∀ a b, F a b → G a b) : ∀ {xs : List α} {ys : List β}, Paired F xs ys → Paired G xs ys
  | _, _, .nil => .nil
  | _, _, .cons r t => .cons (h _ _ r) (Paired.mono' h t)
theorem Paired.snoc {α β : Type} {F : α → β → Prop} {a : α} {b : β} (h : F a b) : ∀ {xs : List α} {ys : List β}, Paired F xs ys → Paired F (xs ++ [a]) (ys ++ [b])
  | _, _, .nil => .cons h .nil
  | _, _, .cons r t => .cons r (Paired.snoc h t)
theorem Tups.same {H H' : Hp} {refs : List V} {prs : List (Int × Int)} (h : Tups H refs prs) (s : Same H H') : Tups H' refs prs := Paired.mono' (fun _ _ ⟨t, e, q⟩ => ⟨t, e, s _ _ q⟩) h
theorem Tups.upd {H : Hp} {D : Addr} {o : HO} {refs : List V} {prs : List (Int × Int)} (h : Tups H refs prs) (n : ∀ xs, H D ≠ some (.tup xs)) : Tups (L2.upd H D o) refs prs :=
  Paired.mono' (fun _ _ ⟨t, e, q⟩ => ⟨t, e, by rw [upd_ne]; exact q; intro z; rw [z] at q; exact n _ q⟩) h
def pairsTo (q i j : Nat) : List (Int × Int) := ((List.range i).flatMap fun (e : Nat) => (List.range q).map fun (w : Nat) => ((e : Int), (w : Int))) ++ (List.range j).map fun (w : Nat) => ((i : Int), (w : Int))
def prs (p q : Nat) : List (Int × Int) := pairsTo q p 0
theorem pairsTo_next (q i : Nat) : pairsTo q i q = pairsTo q (i + 1) 0 := by
  unfold pairsTo
  rw [List.range_succ, List.flatMap_append]
  simp
theorem pairsTo_more (q i j : Nat) : pairsTo q i (j + 1) = pairsTo q i j ++ [((i : Int), (j : Int))] := by
  unfold pairsTo
  rw [List.range_succ (n := j), List.map_append, List.append_assoc]; rfl
theorem pairsTo_len (q i j : Nat) : (pairsTo q i j).length = i * q + j := by
  unfold pairsTo
  rw [List.length_append, List.length_map, List.length_range]
  congr 1
  induction i with
  | zero => simp
  | succ i ih => rw [List.range_succ, List.flatMap_append, List.length_append, ih]; simp [Nat.succ_mul]
section
variable {σ : L2.St} {H : Hp} {ta tb : TA} {te : TE} {Q : VK} {a b p q : Nat}
theorem lc2R (hp : p ≤ 20) (hq : q ≤ 20) (w1 : ∀ x, wipe ((wipe σ [a, b]).set a (some x)) [a, b] = wipe σ [a, b])
    (w2 : ∀ x y, wipe ((wipe ((wipe σ [a, b]).set a (some x)) [b]).set b (some y)) [b] = wipe ((wipe σ [a, b]).set a (some x)) [b])
    (hta : ∀ P : List V → Hp → Prop, P [.int p] H → ta σ H P)
    (htb : ∀ (i : Nat) H1, i < p → Same H H1 → ∀ P : List V → Hp → Prop, P [.int q] H1 → tb ((wipe σ [a, b]).set a (some (.int i))) H1 P)
    (hte : ∀ (i j : Nat) H1, i < p → j < q → Same H H1 → ∀ P : VK, (∀ t H2, Same H1 H2 → H1 t = none → H2 t = some (.tup [.int i, .int j]) → P (.ref t) H2) → te ((wipe ((wipe σ [a, b]).set a (some (.int i))) [b]).set b (some (.int j))) H1 P)
    (hd : ∀ D refs H1, Same H H1 → H D = none → H1 D = some (.lst refs) → Tups H1 refs (prs p q) → Q (.ref D) H1) :
    tLc2 (iRng1 ta) (gName a) tYes (iRng1 tb) (gName b) tYes te [a, b] [b] σ H Q := by
  refine hta _ ⟨p, rfl, by omega, by omega, fun D hD => ?_⟩
  have key : ∀ (i j : Nat) H1, (∃ refs, Same H H1 ∧ H1 D = some (.lst refs) ∧ Tups H1 refs (pairsTo q i j)) → ∃ refs, Same H H1 ∧ H1 D = some (.lst refs) ∧ Tups H1 refs (pairsTo q i j) := fun _ _ _ h => h
  refine ⟨fun i m H1 => m = p - i ∧ i ≤ p ∧ ∃ refs, Same H H1 ∧ H1 D = some (.lst refs) ∧ Tups H1 refs (pairsTo q i 0), ⟨p, by omega, by omega, [], same_new hD, upd_same, .nil⟩, ?_⟩
  rintro i m H1 ⟨rfl, hi, refs, s1, e1, t1⟩
  by_cases lt : i < p
  · refine .inr ⟨by show i < (p : Int).toNat; omega, fun H' => ∃ refs, Same H H' ∧ H' D = some (.lst refs) ∧ Tups H' refs (pairsTo q (i + 1) 0), fun H' h => ⟨p - (i + 1), by omega, rfl, lt, h⟩, ?_⟩
    rintro x H2 ⟨rfl, rfl⟩
    rw [Int.zero_add]
    refine ⟨w1 _, r_yes (r_true (c := true) rfl ?_)⟩
    refine htb i _ lt s1 _ ⟨q, rfl, by omega, by omega, ?_⟩
    refine ⟨fun j k H1 => k = q - j ∧ j ≤ q ∧ ∃ refs, Same H H1 ∧ H1 D = some (.lst refs) ∧ Tups H1 refs (pairsTo q i j), ⟨q, by omega, by omega, refs, s1, e1, t1⟩, ?_⟩
    rintro j k H3 ⟨rfl, hj, refs, s3, e3, t3⟩
    by_cases lt2 : j < q
    · refine .inr ⟨by show j < (q : Int).toNat; omega, fun H' => ∃ refs, Same H H' ∧ H' D = some (.lst refs) ∧ Tups H' refs (pairsTo q i (j + 1)), fun H' h => ⟨q - (j + 1), by omega, rfl, lt2, h⟩, ?_⟩
      rintro y H4 ⟨rfl, rfl⟩
      rw [Int.zero_add]
      refine ⟨w2 _ _, r_yes (r_true (c := true) rfl ?_)⟩
      refine hte i j _ lt lt2 s3 _ fun t H5 s5 ht h5 => ⟨refs, s5 _ _ e3, ?_, refs ++ [.ref t], ?_, upd_same, ?_⟩
      · have h1 := Paired.length t3
        have h2 := pairsTo_len q i j
        have h3 : i * q ≤ 20 * 20 := Nat.mul_le_mul (by omega) (by omega)
        exact small_lt (by omega)
      · intro c o hc
        exact kpO (s5 _ _ (s3 _ _ hc)) (ne_of_none hc hD)
      · rw [pairsTo_more]
        refine Tups.upd (Paired.snoc ⟨t, rfl, h5⟩ (t3.same s5)) fun xs z => ?_
        have := s5 _ _ e3
        rw [this] at z; cases z
    · have ej : j = q := by omega
      subst ej
      refine .inl ⟨by show (j : Int).toNat ≤ j; omega, refs, s3, e3, ?_⟩
      rw [← pairsTo_next]; exact t3
  · have ei : i = p := by omega
    subst ei
    exact .inl ⟨by show (i : Int).toNat ≤ i; omega, hd D refs _ s1 hD e1 t1⟩
end
end Jv
namespace Jv
open PySem PySem.Spec PyProof.Rows L2
theorem log_small {m : Int} (h0 : 0 < m) (h1 : m < 2 ^ 200) : m.natAbs.log2 < 9000 := Nat.lt_trans (PySem.Flt.log2_lt_of (n := m.natAbs) (k := 200) (by decide) (by omega)) (by decide)
theorem cdivS {i m : Int} (h0 : 0 < m) (h1 : m < 2 ^ 200) : CDivW i m := ⟨h0, log_small h0 h1⟩
end Jv
namespace Jv
open PySem PySem.Spec PyProof.Rows L2
section
variable {K : PySem.W.Frag} {σ : L2.St} {H : Hp} {Q : VK} {to : TE} {t : TA} {y : V}
theorem r_bm {T : String} {r : V → List V → Hp → VK → Prop} (h : to σ H fun x H1 => tyV K T x H1 ∧ t σ H1 fun xs H2 => r x xs H2 Q) : tBM K T r to t σ H Q := h
theorem r_tyL {p : Addr} {xs : List V} {P : Prop} (h : H p = some (.lst xs)) (q : P) : tyV K "list" (.ref p) H ∧ P := ⟨.inl ⟨rfl, xs, sqL_at h⟩, q⟩
theorem r_app {l : Addr} {xs : List V} (h : H l = some (.lst xs)) (hz : xs.length < 1000) (q : Q .non (upd H l (.lst (xs ++ [y])))) : rAppend (.ref l) [y] H Q := ⟨l, xs, y, rfl, rfl, h, small_lt hz, q⟩
theorem seqIx {k : Int} {n : Nat} (h0 : 0 ≤ k) (h1 : k.toNat < n) : seqIndex? k n = some k.toNat := by
  unfold seqIndex?
  simp; omega
theorem r_popAt {l : Addr} {xs : List V} {k : Int} (h : H l = some (.lst xs)) (h0 : 0 ≤ k) (h1 : k < 1000) (e : xs[k.toNat]? = some y) (q : Q y (upd H l (.lst (xs.eraseIdx k.toNat)))) : rPopAt (.ref l) [.int k] H Q :=
  ⟨l, xs, k, k.toNat, y, rfl, rfl, h, by omega, by omega, seqIx h0 (List.getElem?_eq_some_iff.mp e).1, e, q⟩
theorem erase_perm : ∀ {l : List Int} {k : Nat} {z : Int}, l[k]? = some z → (z :: l.eraseIdx k).Perm l
  | [], k, z, h => by simp at h
  | a :: r, 0, z, h => by
    have e : a = z := Option.some.inj h
    subst e; exact .refl _
  | a :: r, k + 1, z, h => (List.Perm.swap a z _).trans (List.Perm.cons a (erase_perm (l := r) (k := k) h))
theorem pop_perm {ns ms : List Int} {k : Nat} {z : Int} (e : ms[k]? = some z) : ((ns ++ [z]) ++ ms.eraseIdx k).Perm (ns ++ ms) := by
  rw [List.append_assoc]
  exact List.Perm.append_left ns (erase_perm e)
def rgI (n : Nat) : List Int := (List.range n).map fun (i : Nat) => (i : Int)
end
theorem rises_no {ns : List Int} {k b z : Int} {i : Nat} (hz : ns[i]? = some z) (hb : b = -1 ∨ b ∈ ns.take i) (h : ¬ (b < z ∧ z < k)) : ¬ lotP k ns := fun ⟨h1, _, h3⟩ => by
  obtain ⟨a0, a1⟩ := h1 z (List.mem_of_getElem? hz)
  refine h ⟨?_, by omega⟩
  rcases hb with rfl | hb
  · omega
  · obtain ⟨hi, rfl⟩ := List.getElem?_eq_some_iff.mp hz
    rw [← List.take_append_drop i ns, List.pairwise_append] at h3
    exact h3.2.2 b hb _ (by rw [List.mem_iff_getElem]; exact ⟨0, by rw [List.length_drop]; omega, by simp⟩)
end Jv
namespace Jv
open PySem PySem.Spec PyProof.Rows L2
theorem erase_map : ∀ (l : List Int) (j : Nat), (l.map V.int).eraseIdx j = (l.eraseIdx j).map V.int
  | [], _ => rfl
  | _ :: _, 0 => rfl
  | a :: r, j + 1 => congrArg (V.int a :: ·) (erase_map r j)
end Jv

/-! ### keyword calls, dict displays, things that are refused -/
namespace Jv
open PySem PySem.Spec PyProof.Rows L2
section
variable {K : PySem.W.Frag} {σ : L2.St} {H : Hp} {t tk : TA} {te tv : TE} {Q : VK} {A B : Prop}
theorem r_callN {n m : Nat} {sp : Sp} {gV : List V → List V → List V} {E : XK} (h : t σ H fun vs H1 => tk σ H1 fun zs H2 => vs.length = n ∧ zs.length = m ∧ sp (gV vs zs) H2 Q E) : tCallN n m sp gV E t tk σ H Q := h
theorem r_disp1 {k v : Int} (q : ∀ p, H p = none → Q (.ref p) (upd H p (.dK [(.inl k, .int v)]))) : tDisp [(tC (.int k), tC (.int v))] σ H Q := fun p hp =>
  ⟨upd_same, [(.inl k, .int v)], rfl, Nat.le_of_ble_eq_true rfl, by rw [upd_upd]; exact q p hp⟩
theorem r_disp2 {k v k' v' : Int} (ne : k ≠ k') (q : ∀ p, H p = none → Q (.ref p) (upd H p (.dK [(.inl k, .int v), (.inl k', .int v')]))) : tDisp [(tC (.int k), tC (.int v)), (tC (.int k'), tC (.int v'))] σ H Q := fun p hp =>
  ⟨upd_same, [(.inl k, .int v), (.inl k', .int v')], rfl, Nat.le_of_ble_eq_true rfl, by
    rw [upd_upd]
    have e : mergeK ([] : List (Key × V)) [(.inl k, .int v), (.inl k', .int v')] = [(.inl k, .int v), (.inl k', .int v')] := by
      simp [mergeK, putK, ne]
    rw [e]; exact q p hp⟩
theorem r_same {b : Bool} (q : B) : if (!decide (b = b)) = true then A else B := r_false (by rw [decide_eq_true rfl]; rfl) q
theorem r_same' {b c : Bool} (e : b = c) (q : B) : if (!decide (b = c)) = true then A else B := by subst e; exact r_same q
/-- the same, in a condition that is not yet an if -/
theorem r_dsame {P : Bool → Prop} {b : Bool} (q : P true) : P (decide (b = b)) := by rw [decide_eq_true rfl]; exact q
theorem r_and_k {te ta : TE} {c : Bool} (h : te σ H fun x H1 => ∃ c, x = .bl c ∧ if c = true then ta σ H1 Q else Q (.bl false) H1) : tAndV te ta σ H Q := h
end
/-- a thing that is neither a lot nor an order nor sides nor a couple -/
def BadTh (H : Hp) (x : V) : Prop := ThS H x ∧ ∀ xs, sqOf H x = some xs → intsV xs = none
theorem BadTh.same {H H' : Hp} {x : V} (h : BadTh H x) (s : Same H H') : BadTh H' x := ⟨h.1.same s, fun xs e => h.2 xs (by rw [← sqOf_same h.1.1 s]; exact e)⟩
theorem BadTh.lot {H : Hp} {x : V} {k : Int} (h : BadTh H x) : lotV H x k = false := by
  unfold lotV
  cases e : sqOf H x with
  | none => rfl
  | some xs => dsimp only; rw [h.2 xs e]
theorem BadTh.order {H : Hp} {x : V} {k : Int} (h : BadTh H x) : orderV H x k = false := by
  unfold orderV
  cases e : sqOf H x with
  | none => rfl
  | some xs => dsimp only; rw [h.2 xs e]
section
variable {H : Hp}
theorem bad_sc {x : V} (h : Th H x) (n : sqOf H x = none) : BadTh H x := ⟨⟨h, fun xs q => by rw [q.of] at n; cases n⟩, fun xs e => by rw [n] at e; cases e⟩
theorem bad_dK {a : Addr} {kvs : List (Key × V)} (h : H a = some (.dK kvs)) : BadTh H (.ref a) := bad_sc (.inr (.inr ⟨_, h⟩)) (by simp [sqOf, h])
theorem bad_sq {a : Addr} {xs : List V} (h : H a = some (.lst xs) ∨ H a = some (.tup xs)) (few : xs.length ≤ 60) (th : ∀ v ∈ xs, Th H v) (n : intsV xs = none) : BadTh H (.ref a) := by
  have sq : Sq H (.ref a) xs := ⟨a, rfl, h⟩
  refine ⟨⟨sq.th, fun ys q => ?_⟩, fun ys e => ?_⟩
  · have e := q.of; rw [sq.of] at e; cases e; exact ⟨few, th⟩
  · rw [sq.of] at e; cases e; exact n
theorem thS_ints {a : Addr} {ns : List Int} (h : H a = some (.lst (ns.map V.int)) ∨ H a = some (.tup (ns.map V.int))) (few : ns.length ≤ 60) : ThS H (.ref a) := by
  have sq : Sq H (.ref a) (ns.map V.int) := ⟨a, rfl, h⟩
  refine ⟨sq.th, fun ys q => ?_⟩
  have e := q.of; rw [sq.of] at e; cases e
  refine ⟨by rw [List.length_map]; exact few, fun v hv => ?_⟩
  obtain ⟨i, _, rfl⟩ := List.mem_map.mp hv
  trivial
theorem wholeV_not {x lo hi : V} (h : isI x = false) : wholeV x lo hi = false := by
  cases x with
  | int i => cases h
  | _ => rfl
theorem shaped_bad {d : PyData} (h : PyData.canLay0 d = true) (h2 : PyData.depth d = 0) : SeqAt.shaped (.list [.str "bad", d]) = true := by
  simp [SeqAt.shaped, PyData.canLay0, PyData.depth, PyData.canLayAll0, PyData.depthAll, h, h2]; decide +kernel
end
end Jv

/-! ### data: none, truths, whole numbers, texts, lists that stand, tuples that stand or are the program's own -/
namespace Jv
open PySem PySem.Spec PyProof.Rows L2
mutual
inductive Dv (K : PySem.W.Frag) (H : Hp) : V → PyData → Prop
  | non : Dv K H .non .none
  | bl (b : Bool) : Dv K H (.bl b) (.bool b)
  | int (i : Int) : Dv K H (.int i) (.int i)
  | str (x : Str) : Dv K H (.str x) (.str x)
  | lst {a : Addr} {xs : List V} {ds : List PyData} : H a = some (.lst xs) → DvAll K H xs ds → Dv K H (.ref a) (.list ds)
  | tup {a : Addr} {xs : List V} {ds : List PyData} : SqT K H a xs → DvAll K H xs ds → Dv K H (.ref a) (.tuple ds)
inductive DvAll (K : PySem.W.Frag) (H : Hp) : List V → List PyData → Prop
  | nil : DvAll K H [] []
  | cons {v : V} {vs : List V} {d : PyData} {ds : List PyData} : Dv K H v d → DvAll K H vs ds → DvAll K H (v :: vs) (d :: ds)
end
mutual
theorem Dv.same {K : PySem.W.Frag} {H H' : Hp} (s : Same H H') : ∀ {v : V} {d : PyData}, Dv K H v d → Dv K H' v d
  | _, _, .non => .non
  | _, _, .bl b => .bl b
  | _, _, .int i => .int i
  | _, _, .str x => .str x
  | _, _, .lst h q => .lst (s _ _ h) (DvAll.same s q)
  | _, _, .tup h q => .tup (Jv.Same.sqT s h) (DvAll.same s q)
theorem DvAll.same {K : PySem.W.Frag} {H H' : Hp} (s : Same H H') : ∀ {vs : List V} {ds : List PyData}, DvAll K H vs ds → DvAll K H' vs ds
  | _, _, .nil => .nil
  | _, _, .cons a b => .cons (Dv.same s a) (DvAll.same s b)
end
mutual
theorem Dv.dp {K : PySem.W.Frag} {H : Hp} : ∀ {v : V} {d : PyData}, Dv K H v d → Dp K H v d
  | _, _, .non => .non
  | _, _, .bl b => .bl b
  | _, _, .int i => .int i
  | _, _, .str x => .str x
  | _, _, .lst h q => .lst (sqL_at h) (DvAll.dp q)
  | _, _, .tup h q => .tup h (DvAll.dp q)
theorem DvAll.dp {K : PySem.W.Frag} {H : Hp} : ∀ {vs : List V} {ds : List PyData}, DvAll K H vs ds → DpAll K H vs ds
  | _, _, .nil => .nil
  | _, _, .cons a b => .cons (Dv.dp a) (DvAll.dp b)
end
section
variable {K : PySem.W.Frag} {H : Hp} {v : V} {d : PyData} {vs : List V} {ds : List PyData}
theorem DvAll.len : ∀ {vs : List V} {ds : List PyData}, DvAll K H vs ds → vs.length = ds.length
  | _, _, .nil => rfl
  | _, _, .cons _ b => congrArg (· + 1) (DvAll.len b)
theorem DvAll.snoc (h : Dv K H v d) : ∀ {vs : List V} {ds : List PyData}, DvAll K H vs ds → DvAll K H (vs ++ [v]) (ds ++ [d])
  | _, _, .nil => .cons h .nil
  | _, _, .cons a b => .cons a (DvAll.snoc h b)
theorem DvAll.at : ∀ {vs : List V} {ds : List PyData} {i : Nat} {v : V}, DvAll K H vs ds → vs[i]? = some v → ∃ d, ds[i]? = some d ∧ Dv K H v d
  | _, _, _, _, .nil, e => by simp at e
  | _, _, 0, _, .cons a _, e => by
    simp at e; subst e; exact ⟨_, rfl, a⟩
  | _, _, i + 1, _, .cons _ b, e => by
    simp at e ⊢; exact DvAll.at b e
theorem DvAll.of : ∀ {vs : List V} {ds : List PyData} {i : Nat} {d : PyData}, DvAll K H vs ds → ds[i]? = some d → ∃ v, vs[i]? = some v ∧ Dv K H v d
  | _, _, _, _, .nil, e => by simp at e
  | _, _, 0, _, .cons a _, e => by
    simp at e; subst e; exact ⟨_, rfl, a⟩
  | _, _, i + 1, _, .cons _ b, e => by
    simp at e ⊢; exact DvAll.of b e
theorem dv_ints : ∀ ns : List Int, DvAll K H (ns.map V.int) (ns.map PyData.int)
  | [] => .nil
  | a :: r => .cons (.int a) (dv_ints r)
end
/-- what sort a thing is -/
def tyD : PyData → String
  | .none => "NoneType"
  | .bool _ => "bool"
  | .int _ => "int"
  | .str _ => "str"
  | .list _ => "list"
  | .tuple _ => "tuple"
  | _ => "object"
def boolD : PyData → Bool
  | .bool _ => true
  | _ => false
def intD : PyData → Bool
  | .int _ => true
  | _ => false
def seqD : PyData → Option (List PyData)
  | .list xs => some xs
  | .tuple xs => some xs
  | _ => none
section
variable {K : PySem.W.Frag} {H : Hp} {v : V} {d : PyData} {Q : VK}
theorem SqT.tyX {a : Addr} {xs : List V} (h : SqT K H a xs) : TyX K H (.ref a) (.type "tuple") := by
  rcases h with (h | ⟨o, h⟩) | ⟨o, its, n, h, c, _⟩
  · exact .base (.tup h)
  · exact .fTuple h
  · exact .kTuple h c
theorem Dv.ty (h : Dv K H v d) : TyX K H v (.type (tyD d)) := by
  cases h with
  | non => exact .base .non
  | bl b => exact .base (.bl b)
  | int i => exact .base (.int i)
  | str x => exact .base (.str x)
  | lst h _ => exact .base (.lst h)
  | tup h _ => exact SqT.tyX h
theorem Dv.kits (h : Dv K H v d) : kitB (tyD d) "bool" = some (boolD d) ∧ kitB (tyD d) "int" = some (boolD d || intD d) ∧ kitB (tyD d) "list" = some (tyD d == "list") ∧ kitB (tyD d) "tuple" = some (tyD d == "tuple") ∧ kitB (tyD d) "str" = some (tyD d == "str") ∧ ((tyD d == "list") || (tyD d == "tuple")) = (seqD d).isSome := by
  cases h with
  | non => exact ⟨(by decide +kernel : kitB "NoneType" "bool" = some false), (by decide +kernel : kitB "NoneType" "int" = some false), (by decide +kernel : kitB "NoneType" "list" = some ("NoneType" == "list")), (by decide +kernel : kitB "NoneType" "tuple" = some ("NoneType" == "tuple")), (by decide +kernel : kitB "NoneType" "str" = some ("NoneType" == "str")), (by decide +kernel : (("NoneType" == "list") || ("NoneType" == "tuple")) = false)⟩
  | bl b => exact ⟨(by decide +kernel : kitB "bool" "bool" = some true), (by decide +kernel : kitB "bool" "int" = some true), (by decide +kernel : kitB "bool" "list" = some ("bool" == "list")), (by decide +kernel : kitB "bool" "tuple" = some ("bool" == "tuple")), (by decide +kernel : kitB "bool" "str" = some ("bool" == "str")), (by decide +kernel : (("bool" == "list") || ("bool" == "tuple")) = false)⟩
  | int i => exact ⟨(by decide +kernel : kitB "int" "bool" = some false), (by decide +kernel : kitB "int" "int" = some true), (by decide +kernel : kitB "int" "list" = some ("int" == "list")), (by decide +kernel : kitB "int" "tuple" = some ("int" == "tuple")), (by decide +kernel : kitB "int" "str" = some ("int" == "str")), (by decide +kernel : (("int" == "list") || ("int" == "tuple")) = false)⟩
  | str x => exact ⟨(by decide +kernel : kitB "str" "bool" = some false), (by decide +kernel : kitB "str" "int" = some false), (by decide +kernel : kitB "str" "list" = some ("str" == "list")), (by decide +kernel : kitB "str" "tuple" = some ("str" == "tuple")), (by decide +kernel : kitB "str" "str" = some ("str" == "str")), (by decide +kernel : (("str" == "list") || ("str" == "tuple")) = false)⟩
  | lst _ _ => exact ⟨(by decide +kernel : kitB "list" "bool" = some false), (by decide +kernel : kitB "list" "int" = some false), (by decide +kernel : kitB "list" "list" = some ("list" == "list")), (by decide +kernel : kitB "list" "tuple" = some ("list" == "tuple")), (by decide +kernel : kitB "list" "str" = some ("list" == "str")), (by decide +kernel : (("list" == "list") || ("list" == "tuple")) = true)⟩
  | tup _ _ => exact ⟨(by decide +kernel : kitB "tuple" "bool" = some false), (by decide +kernel : kitB "tuple" "int" = some false), (by decide +kernel : kitB "tuple" "list" = some ("tuple" == "list")), (by decide +kernel : kitB "tuple" "tuple" = some ("tuple" == "tuple")), (by decide +kernel : kitB "tuple" "str" = some ("tuple" == "str")), (by decide +kernel : (("tuple" == "list") || ("tuple" == "tuple")) = true)⟩
theorem d_isB (h : Dv K H v d) (q : Q (.bl (boolD d)) H) : rIsi K [v, .ty "bool"] H Q := ⟨v, _, _, _, _, rfl, .ty _, h.ty, kit_ty h.kits.1, q⟩
theorem d_isI (h : Dv K H v d) (q : Q (.bl (boolD d || intD d)) H) : rIsi K [v, .ty "int"] H Q := ⟨v, _, _, _, _, rfl, .ty _, h.ty, kit_ty h.kits.2.1, q⟩
theorem d_isT (h : Dv K H v d) (q : Q (.bl (tyD d == "tuple")) H) : rIsi K [v, .ty "tuple"] H Q := ⟨v, _, _, _, _, rfl, .ty _, h.ty, kit_ty h.kits.2.2.2.1, q⟩
theorem d_isStr (h : Dv K H v d) (q : Q (.bl (tyD d == "str")) H) : rIsi K [v, .ty "str"] H Q := ⟨v, _, _, _, _, rfl, .ty _, h.ty, kit_ty h.kits.2.2.2.2.1, q⟩
theorem d_isS {p : Addr} (hp : H p = some (.tup [.ty "list", .ty "tuple"])) (h : Dv K H v d) (q : Q (.bl (seqD d).isSome) H) : rIsiT K [v, .ref p] H Q := by
  obtain ⟨_, _, h2, h3, _, h4⟩ := h.kits
  refine ⟨v, p, _, _, _, (seqD d).isSome, rfl, hp, .cons (.ty _) (.cons (.ty _) .nil), h.ty, ?_, q⟩
  refine kitAny_cons (kit_ty h2) (fun e => ?_) fun e => by rw [← h4, e]; rfl
  refine kitAny_cons (kit_ty h3) (fun e2 => ?_) fun e2 => by rw [← h4, e2, Bool.or_true]
  rw [kitAny_nil, ← h4, e, e2]; rfl
/-- a sequence's items -/
theorem Dv.seq (h : Dv K H v d) {ds : List PyData} (e : seqD d = some ds) : ∃ a xs, v = .ref a ∧ (SqL K H a xs ∨ SqT K H a xs) ∧ DvAll K H xs ds := by
  cases h with
  | lst h q => cases e; exact ⟨_, _, rfl, .inl (sqL_at h), q⟩
  | tup h q => cases e; exact ⟨_, _, rfl, .inr h, q⟩
  | _ => cases e
end
/-- is_whole's answer, of data -/
def wholeD : PyData → V → V → Bool
  | .int i, lo, hi => loOk lo i && hiOk hi i
  | _, _, _ => false
end Jv

/-! ### methods, makings that may raise within a try; static methods; readings of objects -/
namespace Jv
open PySem PySem.Spec PyProof.Rows L2
section
variable {X : Cx} {CX : CXT} {k : Nat} {f C : Addr} {fd : FuncData} {ps : List Str} {sp : Sp} {dvs : List V} {ds : List Value} {E : L2.St → XK} {x m : Str} {p pos apos : Pos} {e o : Expr} {es : List Expr} {ta : TE} {t : TA}
theorem run_fnX {pins : List (Addr × Obj)} {σ : L2.St} {H : Hp} {s : Shared} {Q : VK} {us : List Value} {vs : List V} (F : FnOk X.prog X.w X.K X.mg X.base CX k f fd ps sp) (hr : Room k X.A) (hb : Binds X.K fd ps ds) (hd : Vals dvs ds) (hx : PassesAt CX X σ (E σ))
    (I : Inv X pins σ H s) (r : Vals vs us) (h : sp (vs ++ dvs) H Q (E σ)) : wpAny (model X.prog X.w) X.A (call (.ref f) us) (EP X pins σ Q) X.xe s := by
  have r2 : Vals (vs ++ dvs) (us ++ ds) := r.append hd
  have hl : (us ++ ds).length = ps.length := by rw [← r2.length]; exact F.len _ _ _ _ h
  refine wpAny_call (codeAny_mono (F.run X.A X.stack s H ⟨us, []⟩ (us ++ ds) (vs ++ dvs) Q (E σ) hr I.env0 (hb s us I.kIn hl) r2 h) fun r s' hq => ?_)
  cases r with
  | error e => exact hx pins H s e s' I hq
  | ok fl =>
    cases fl with
    | ret u => exact I.after hq
    | next => exact False.elim hq
    | brk => exact False.elim hq
    | cont => exact False.elim hq
def tMethX (C : Addr) (m : Str) (sp : Sp) (dvs : List V) (E : L2.St → XK) (ta : TE) (t : TA) : TE := fun σ H Q => ta σ H fun x H1 => ∃ a dx fs, x = .ref a ∧ H1 a = some (.ins C dx fs) ∧ fs.lookup m = none ∧
  t σ H1 fun vs H2 => sp (x :: (vs ++ dvs)) H2 Q (E σ)
theorem pe_methX {pl : Sem Bool} (he : PE X o ta) (c : Cls X.K C) (hm : Meth X.K C m f) (F : FnOk X.prog X.w X.K X.mg X.base CX k f fd ps sp) (hr : Room k X.A) (hb : Binds X.K fd ps ds) (hd : Vals dvs ds) (hx : ∀ σ, PassesAt CX X σ (E σ)) (ha : PA X (e :: es) t)
    (hst : starEach (e :: es) X.env = (false, eval e X.env) :: starEach es X.env := by rfl) (hpl : (backTo pos (starEach es X.env)).any (·.1) = false := by rfl)
    (ht : eval (.Call (.Attribute o m apos) (e :: es) [] pos) X.env = (do
      let ov ← eval o X.env
      standAt apos.atName
      let (f, first) ← holding [ov] (getMethod ov m pl)
      callWith pos f first (backTo pos (starEach (e :: es) X.env)) (backToKw pos (keywordEach [] X.env))) := by rfl) :
    PE X (.Call (.Attribute o m apos) (e :: es) [] pos) (tMethX C m sp dvs E ta t) := by
  refine ⟨fun pins s σ H Q I h => ?_⟩
  refine PySem.W.methodCall_KW (pl := pl) (thn (he.run pins s σ H _ I h) fun u s1 ⟨x, H1, I1, rx, a, dx, fs, ex, ea, l, q⟩ => ?_) ht
  subst ex
  obtain rfl : u = Value.ref a := rx
  refine getmeth_ok I1 ea c hm l ?_
  refine PySem.W.callWith_K (first := [.ref a]) (h₀ := X.base) I.ok.mod.kin hm.kp (thn (ha.run pos pins s1 σ H1 _ I1 q) fun us s2 ⟨vs, H2, I2, r, q2⟩ => ⟨I2.kIn, ?_⟩) hst hpl
  exact run_fnX (us := .ref a :: us) (vs := .ref a :: vs) F hr hb hd (hx σ) I2 (.cons rfl r) q2
def tMakeX (C : Addr) (sp : Sp) (dvs : List V) (E : L2.St → XK) (t : TA) : TE := fun σ H Q => t σ H fun vs H1 => ∀ x dx, H1 x = none → H1 dx = none → dx ≠ x →
  sp (.ref x :: (vs ++ dvs)) (upd (upd H1 dx (.own x)) x (.ins C dx [])) (fun v H2 => v = .non ∧ Q (.ref x) H2) (E σ)
theorem run_makeX {pins : List (Addr × Obj)} {σ : L2.St} {H : Hp} {s : Shared} {Q : VK} {us : List Value} {vs : List V} (M : Mk X.K C f) (F : FnOk X.prog X.w X.K X.mg X.base CX k f fd ps sp) (hr : Room (k + 1) X.A) (hb : Binds X.K fd ps ds) (hd : Vals dvs ds)
    (hx : PassesAt CX X σ (E σ)) (I : Inv X pins σ H s) (r : Vals vs us)
    (h : ∀ x dx, H x = none → H dx = none → dx ≠ x → sp (.ref x :: (vs ++ dvs)) (upd (upd H dx (.own x)) x (.ins C dx [])) (fun v H2 => v = .non ∧ Q (.ref x) H2) (E σ)) :
    wpAny (model X.prog X.w) X.A (call (.ref C) us) (EP X pins σ Q) X.xe s := by
  have hq := h (s.heap.objs.size + 1) s.heap.objs.size (I.hok.fresh (Nat.le_succ _)) (I.hok.fresh (Nat.le_refl _)) (Nat.ne_of_lt (Nat.lt_succ_self _))
  have I2 := Inv.made (C := C) I
  have r2 : Vals (V.ref (s.heap.objs.size + 1) :: (vs ++ dvs)) (Value.ref (s.heap.objs.size + 1) :: (us ++ ds)) := .cons rfl (r.append hd)
  have hl : (Value.ref (s.heap.objs.size + 1) :: us ++ ds).length = ps.length := by
    have e := r2.length
    rw [F.len _ _ _ _ hq] at e
    exact e.symm
  refine wpAny_call (make_map (f := f) I.kIn M.makes M.init (beq_iff_eq.mp M.fn) (codeAny_mono (F.run _ X.stack _ _ ⟨Value.ref (s.heap.objs.size + 1) :: us, []⟩ (Value.ref (s.heap.objs.size + 1) :: (us ++ ds)) _ _ (E σ) (hr.make C us [])
    (I2.env0.make C us []) (hb _ (Value.ref (s.heap.objs.size + 1) :: us) I2.kIn hl) r2 hq) fun r s' hq' => ?_))
  cases r with
  | error e => exact hx pins _ _ e s' I2 hq'
  | ok fl =>
    cases fl with
    | ret u =>
      obtain ⟨v, H', I3, rv, ev, q3⟩ := I2.after hq'
      subst ev
      exact ⟨rv, ⟨V.ref (s.heap.objs.size + 1), H', I3, rfl, q3⟩⟩
    | next => exact False.elim hq'
    | brk => exact False.elim hq'
    | cont => exact False.elim hq'
theorem pe_makeX (M : Mk X.K C f) (F : FnOk X.prog X.w X.K X.mg X.base CX k f fd ps sp) (hr : Room (k + 1) X.A) (hg : Gl X x) (hm : X.mg x = some (.ref C)) (hb : Binds X.K fd ps ds) (hd : Vals dvs ds) (hx : ∀ σ, PassesAt CX X σ (E σ))
    (ha : PA X (e :: es) t) (hdb : (x == ("__debug__" : Str)) = false := by decide) (he : starEach (e :: es) X.env = (false, eval e X.env) :: starEach es X.env := by rfl) (hpl : (backTo pos (starEach es X.env)).any (·.1) = false := by rfl) :
    PE X (.Call (.Name x p) (e :: es) [] pos) (tMakeX C sp dvs E t) := by
  refine ⟨fun pins s σ H Q I h => ?_⟩
  refine wpAny_Call_Name_kw (ld_glob I hg hm ?_ hdb)
  refine PySem.W.callWith_K (h₀ := X.base) I.ok.mod.kin M.kp (thn (ha.run pos pins s σ H _ I h) fun us s1 ⟨vs, H1, I1, r, q⟩ => ⟨I1.kIn, ?_⟩) he hpl
  exact run_makeX M F hr hb hd (hx σ) I1 r q
end
/-- C.m is a static method: its record at p, its def at g -/
structure SMet (K : PySem.W.Frag) (C : Addr) (mc : Value) (m : Str) (p g : Addr) : Prop where
  rd : PySem.W.readsIn K C mc = true
  ga : PySem.W.specialIn K (.ref C) "__getattribute__" = some (some (.builtin "type.__getattribute__"))
  at_ : PySem.W.findCls K (.ref C) mc m = some (.get (.builtin "staticmethod.__get__") (.ref p) .none (.ref C))
  rc : ∃ rest, PySem.W.recIn K p "staticmethod" = some (.ref g :: rest)
  kp : PySem.W.keepIn K (.ref g) = true
section
variable {X : Cx} {CX : CXT} {k : Nat} {g p C : Addr} {mc : Value} {fd : FuncData} {ps : List Str} {sp : Sp} {dvs : List V} {ds : List Value} {E : XK} {m : Str} {pos apos : Pos} {e o : Expr} {es : List Expr} {ta : TE} {t : TA}
def tSMeth (C : Addr) (sp : Sp) (dvs : List V) (E : XK) (ta : TE) (t : TA) : TE := fun σ H Q => ta σ H fun x H1 => x = .ref C ∧ t σ H1 fun vs H2 => sp (vs ++ dvs) H2 Q E
theorem getsm_ok {pins : List (Addr × Obj)} {σ : L2.St} {H : Hp} {s : Shared} {A : Around} {E : Value → Shared → Prop} {pl : Sem Bool} {Q : Value × List Value → Shared → Prop} (I : Inv X pins σ H s) (r : SMet X.K C mc m p g)
    (h : ∀ s', Inv X pins σ H s' → Q (.ref g, []) s') : wpAny (model X.prog X.w) A (getMethod (.ref C) m pl) Q E s := by
  obtain ⟨rest, hp⟩ := r.rc
  refine PySem.W.method_cls I.kIn r.ga (PySem.W.cls_bind I.kIn r.rd r.at_ ?_)
  exact wpAny_call (PySem.W.sm_get (s := { s with toks := s.toks + 1 }) I.kIn hp (PySem.W.handed_on rfl (h _ (I.tok _))))
theorem pe_smeth {pl : Sem Bool} (he : PE X o ta) (c : SMet X.K C mc m p g) (F : FnOk X.prog X.w X.K X.mg X.base CX k g fd ps sp) (hr : Room k X.A) (hb : Binds X.K fd ps ds) (hd : Vals dvs ds) (hx : Passes CX X E) (ha : PA X (e :: es) t)
    (hst : starEach (e :: es) X.env = (false, eval e X.env) :: starEach es X.env := by rfl) (hpl : (backTo pos (starEach es X.env)).any (·.1) = false := by rfl)
    (ht : eval (.Call (.Attribute o m apos) (e :: es) [] pos) X.env = (do
      let ov ← eval o X.env
      standAt apos.atName
      let (f, first) ← holding [ov] (getMethod ov m pl)
      callWith pos f first (backTo pos (starEach (e :: es) X.env)) (backToKw pos (keywordEach [] X.env))) := by rfl) :
    PE X (.Call (.Attribute o m apos) (e :: es) [] pos) (tSMeth C sp dvs E ta t) := by
  refine ⟨fun pins s σ H Q I h => ?_⟩
  refine PySem.W.methodCall_KW (pl := pl) (thn (he.run pins s σ H _ I h) fun u s1 ⟨x, H1, I1, rx, ex, q⟩ => ?_) ht
  subst ex
  obtain rfl : u = Value.ref C := rx
  refine getsm_ok I1 c fun s2 I2 => ?_
  refine PySem.W.callWith_K (first := []) (h₀ := X.base) I.ok.mod.kin c.kp (thn (ha.run pos pins s2 σ H1 _ I2 q) fun us s3 ⟨vs, H2, I3, rv, q2⟩ => ⟨I3.kIn, ?_⟩) hst hpl
  exact run_fn F hr hb hd hx I3 rv q2
end
end Jv

/-! ### is True, is False of any thing; faults caught by one of two names -/
namespace Jv
open PySem PySem.Spec PyProof.Rows L2
/-- a is b, b True or False -/
def rIsT : R2 := fun x y H Q => ∃ b : Bool, y = .bl b ∧ Q (.bl (decide (x = .bl b))) H
theorem op_isT {X : Cx} : OpR X (compareOp .Is) rIsT := by
  intro pins s σ H x y v u Q I rx ry h
  obtain ⟨b, rfl, q⟩ := h
  cases (show u = Value.bool b from ry)
  by_cases e : x = .bl b
  · subst e
    cases (show v = Value.bool b from rx)
    exact wpAny_is_self rfl ⟨.bl true, H, I, rfl, by simpa using q⟩
  · have e2 : decide (x = .bl b) = false := decide_eq_false e
    rw [e2] at q
    refine wpAny_is_other ?_ ?_ ⟨.bl false, H, I, rfl, q⟩
    · cases x <;> first
        | (cases rx; rfl)
        | (obtain ⟨t, rfl⟩ := rx; rfl)
    · intro z
      cases x with
      | bl c => cases (show v = Value.bool c from rx); exact e (by cases z; rfl)
      | non => cases rx; cases z
      | int i => obtain ⟨t, rfl⟩ := rx; cases z
      | str i => obtain ⟨t, rfl⟩ := rx; cases z
      | byt i => obtain ⟨t, rfl⟩ := rx; cases z
      | flt i => obtain ⟨t, rfl⟩ := rx; cases z
      | ref a => cases (show v = Value.ref a from rx); cases z
      | ty a => cases (show v = Value.type a from rx); cases z
end Jv

/-! ### sequences that stand or are the program's own; walks, comprehensions over them; data's answers -/
namespace Jv
open PySem PySem.Spec PyProof.Rows L2
def Sk (K : PySem.W.Frag) (H : Hp) (x : V) (xs : List V) : Prop := ∃ a, x = .ref a ∧ (SqL K H a xs ∨ SqT K H a xs)
section
variable {K : PySem.W.Frag} {σ : L2.St} {H H' : Hp} {te : TE} {Q : VK} {xs : List V} {ds : List PyData} {j i : Nat} {x v : V} {d : PyData}
theorem Sk.same (h : Sk K H x xs) (s : Same H H') : Sk K H' x xs := by
  obtain ⟨a, rfl, h | h⟩ := h
  · exact ⟨a, rfl, .inl (s.seq h)⟩
  · exact ⟨a, rfl, .inr (Jv.Same.sqT s h)⟩
theorem Dv.sk (h : Dv K H v d) (e : seqD d = some ds) : ∃ xs, Sk K H v xs ∧ DvAll K H xs ds := by
  obtain ⟨a, xs, e1, e2, e3⟩ := h.seq e
  exact ⟨xs, ⟨a, e1, e2⟩, e3⟩
theorem Sk.len (h : Sk K H x xs) (q : Q (.int xs.length) H) : rLenK K [x] H Q := by
  obtain ⟨a, rfl, h⟩ := h
  exact r_len h q
theorem Sk.ix (h : Sk K H x xs) {k : Int} {v : V} (e : atI xs k = some v) (q : Q v H) : rIx K x (.int k) H Q := by
  obtain ⟨a, rfl, h | h⟩ := h
  · exact .inl (r_ixL h e q)
  · exact .inr (.inl (r_ixT h e q))
/-- over a name that holds a list or a tuple -/
theorem lcK (hv : σ[i]? = some (some x)) (hx : Sk K H x xs) (f : V → V) (few : xs.length ≤ 1000)
    (hs : ∀ v H1, v ∈ xs → Same H H1 → ∀ P : VK, (∀ H2, Same H1 H2 → P (f v) H2) → te ((σ.set j none).set j (some v)) H1 P)
    (hd : ∀ D H1, Same H H1 → H D = none → H1 D = some (.lst (xs.map f)) → Q (.ref D) H1) : tLc (fun σ H R => iList K (tVar i) σ H R ∨ iTup K (tVar i) σ H R) (gName j) tYes te [j] σ H Q := by
  obtain ⟨a, rfl, h | h⟩ := hx
  · exact .inl (lcL hv h f few hs hd)
  · exact .inr (lcT hv h f few hs hd)
theorem Sk.tup (h : Sk K H x xs) (q : ∀ (t : Addr) (H' : Hp), Same H H' → SqT K H' t xs → Q (.ref t) H') : rTupOf K [x] H Q := by
  obtain ⟨a, rfl, h | h⟩ := h
  · exact ⟨a, _, rfl, .inl ⟨h, fun l hl => q l _ (same_new hl) (sqT_at upd_same)⟩⟩
  · exact ⟨a, _, rfl, .inr ⟨h, q a _ (Same.refl _) h⟩⟩
end
def few1 (d : PyData) : Prop := ∀ ds, seqD d = some ds → ds.length ≤ 100
def few2 (d : PyData) : Prop := ∀ ds, seqD d = some ds → ds.length ≤ 100 ∧ ∀ e ∈ ds, few1 e
def few3 (d : PyData) : Prop := ∀ ds, seqD d = some ds → ds.length ≤ 100 ∧ ∀ e ∈ ds, few2 e
theorem DvAll.mem {K : PySem.W.Frag} {H : Hp} : ∀ {vs : List V} {ds : List PyData} {v : V}, DvAll K H vs ds → v ∈ vs → ∃ d ∈ ds, Dv K H v d
  | _, _, _, .nil, m => by cases m
  | _, _, _, .cons a b, m => by
    rcases List.mem_cons.mp m with rfl | m
    · exact ⟨_, List.mem_cons_self, a⟩
    · obtain ⟨d, h1, h2⟩ := DvAll.mem b m
      exact ⟨d, List.mem_cons_of_mem _ h1, h2⟩
theorem Dv.whole {K : PySem.W.Frag} {H : Hp} {v lo hi : V} {d : PyData} (h : Dv K H v d) : wholeV v lo hi = wholeD d lo hi := by
  cases h <;> rfl
/-- a function of things that goes by what they are -/
theorem DvAll.all {K : PySem.W.Frag} {H : Hp} {f : V → Bool} {g : PyData → Bool} (e : ∀ v d, Dv K H v d → f v = g d) : ∀ {vs : List V} {ds : List PyData}, DvAll K H vs ds → vs.all f = ds.all g
  | _, _, .nil => rfl
  | _, _, .cons a b => by rw [List.all_cons, List.all_cons, e _ _ a, DvAll.all e b]
def sidesD (d : PyData) : Bool := match seqD d with
  | some [.int p, .int q] => decide ((1 ≤ p ∧ p ≤ 6) ∧ (1 ≤ q ∧ q ≤ 6) ∧ p * q ≤ 12)
  | _ => false
def endsD (l : Int) (d : PyData) : Bool := match seqD d with
  | some ds => decide (0 < ds.length) && ds.all fun e => wholeD e (.int (-l)) (.int l)
  | none => false
def knowsD (d : PyData) : Bool := match seqD d with
  | some ds => decide (ds.length = 2) && ds.all boolD
  | none => false
theorem boolD_iff {K : PySem.W.Frag} {H : Hp} {v : V} {d : PyData} (h : Dv K H v d) : (decide (v = .bl true) || decide (v = .bl false)) = boolD d := by
  cases h with
  | bl b => cases b <;> rfl
  | _ => rfl
theorem wholeD_int {d : PyData} {l h : Int} : wholeD d (.int l) (.int h) = true → ∃ i, d = .int i ∧ l ≤ i ∧ i ≤ h := by
  intro q
  cases d with
  | int i => simp [wholeD, loOk, hiOk] at q; exact ⟨i, rfl, q⟩
  | _ => cases q
/-- how many lines, how long -/
def linesD (d : PyData) : Option (Nat × Nat) := match seqD d with
  | none => none
  | some ds => if ds.all (fun e => (seqD e).isSome) = true then
      match ds.map (fun e => ((seqD e).getD []).length) with
      | [] => none
      | n :: ns => if ns.all (fun m => decide (m = n)) = true then some (ns.length + 1, n) else none
    else none
end Jv

/-! ### comprehensions whose results are data; the lists under way hidden -/
namespace Jv
open PySem PySem.Spec PyProof.Rows L2
def hide (N : List Addr) (H : Hp) : Hp := fun b => if b ∈ N then none else H b
theorem hide_nil {H : Hp} : hide [] H = H := by funext b; simp [hide]
theorem hide_at {N : List Addr} {H : Hp} {b : Addr} {o : HO} (n : b ∉ N) (h : H b = some o) : hide N H b = some o := by unfold hide; rw [if_neg n]; exact h
theorem hide_some {N : List Addr} {H : Hp} {b : Addr} {o : HO} (h : hide N H b = some o) : b ∉ N ∧ H b = some o := by
  unfold hide at h
  by_cases n : b ∈ N
  · rw [if_pos n] at h; cases h
  · rw [if_neg n] at h; exact ⟨n, h⟩
theorem hide_le {N : List Addr} {H : Hp} : Same (hide N H) H := fun _ _ e => (hide_some e).2
theorem hide_same {N : List Addr} {H H' : Hp} (s : Same H H') : Same (hide N H) (hide N H') := fun _ _ e => hide_at (hide_some e).1 (s _ _ (hide_some e).2)
theorem hide_more {N : List Addr} {H H' : Hp} {D : Addr} (s : Same H H') (n : H D = none) : Same (hide N H) (hide (D :: N) H') := fun b o e => by
  obtain ⟨h1, h2⟩ := hide_some e
  refine hide_at (fun m => ?_) (s _ _ h2)
  rcases List.mem_cons.mp m with rfl | m
  · rw [n] at h2; cases h2
  · exact h1 m
theorem hide_less {N : List Addr} {H : Hp} {D : Addr} : Same (hide (D :: N) H) (hide N H) := fun b o e => by
  obtain ⟨h1, h2⟩ := hide_some e
  exact hide_at (fun m => h1 (List.mem_cons_of_mem _ m)) h2
theorem hide_upd {N : List Addr} {H : Hp} {D : Addr} {o : HO} : hide (D :: N) (upd H D o) = hide (D :: N) H := by
  funext b
  unfold hide
  by_cases m : b ∈ D :: N
  · rw [if_pos m, if_pos m]
  · rw [if_neg m, if_neg m]
    exact upd_ne fun e => m (by rw [e]; exact List.mem_cons_self)
def Held (N : List Addr) (H : Hp) : Prop := ∀ b ∈ N, ∃ o, H b = some o
theorem Held.nil {H : Hp} : Held [] H := fun _ h => by cases h
theorem Held.same {N : List Addr} {H H' : Hp} (h : Held N H) (s : Same H H') : Held N H' := fun b m => let ⟨o, e⟩ := h b m; ⟨o, s _ _ e⟩
theorem Held.cons {N : List Addr} {H : Hp} {D : Addr} {o : HO} (h : Held N H) (e : H D = some o) : Held (D :: N) H := fun b m => by
  rcases List.mem_cons.mp m with rfl | m
  · exact ⟨_, e⟩
  · exact h b m
theorem Held.new {N : List Addr} {H : Hp} {t : Addr} (h : Held N H) (n : H t = none) : t ∉ N := fun m => by
  obtain ⟨o, e⟩ := h t m
  rw [n] at e; cases e
section
variable {K : PySem.W.Frag} {σ : L2.St} {H : Hp} {te : TE} {tt : TT} {Q : VK} {xs : List V} {es : List PyData} {j i n : Nat} {x : V} {N : List Addr} {J : It} {G : Hp → Prop} {Y : Nat → Hp → V → Hp → Prop} {F : Nat → V → Prop}
theorem lcD (w : Walk J n G Y) (hG : ∀ H', Same H H' → G H') (hy : ∀ i H x H', i < n → Y i H x H' → H' = H ∧ F i x) (hN : Held N H) (es : List PyData) (hl : es.length = n) (few : n ≤ 1000)
    (hs : ∀ i v e D H1, i < n → F i v → es[i]? = some e → Same H H1 → Held (D :: N) H1 → H D = none → ∀ P : VK, (∀ y H2, Same H1 H2 → Dv K (hide (D :: N) H2) y e → P y H2) → te ((σ.set j none).set j (some v)) H1 P)
    (hd : ∀ D ys H1, Same H H1 → H D = none → H1 D = some (.lst ys) → DvAll K (hide N H1) ys es → DvAll K (hide (D :: N) H1) ys es → Q (.ref D) H1) : ∀ D, H D = none → ∃ W : Nat → Nat → Hp → Prop, (∃ m, W 0 m (upd H D (.lst []))) ∧ ∀ i m H, W i m H →
      (J.stop i H ∧ Q (.ref D) H) ∨ (J.go i H ∧ ∃ Nx : Hp → Prop, (∀ H', Nx H' → ∃ m', m' < m ∧ W (i + 1) m' H') ∧ ∀ x H', J.yld i H x H' → gName j x (wipe σ [j]) H' fun σ2 H2 => wipe σ2 [j] = wipe σ [j] ∧ tYes σ2 H2 fun b H3 =>
        if b = true then te σ2 H3 fun y H4 => ∃ acc, H4 D = some (.lst acc) ∧ acc.length < sizeLine ∧ Nx (upd H4 D (.lst (acc ++ [y]))) else Nx H3) := by
  intro D hD
  refine lc_it w (fun i H1 => Same H H1 ∧ ∃ ys, H1 D = some (.lst ys) ∧ DvAll K (hide (D :: N) H1) ys (es.take i)) ⟨same_new hD, [], upd_same, .nil⟩ (fun i H1 _ h => hG H1 h.1) ?_ ?_
  · rintro i x H1 H2 hi ⟨s1, ys, e1, al⟩ hx
    obtain ⟨e0, hF⟩ := hy i _ _ _ hi hx
    subst e0
    refine ⟨wipe1, ?_⟩
    refine r_yes ?_
    refine r_true (c := true) rfl ?_
    have hie : i < es.length := by omega
    have he := List.getElem?_eq_getElem hie
    refine hs i x _ D _ hi hF he s1 ((hN.same s1).cons e1) hD _ fun y H3 s3 dy => ⟨_, s3 _ _ e1, ?_, ?_, _, upd_same, ?_⟩
    · rw [al.len, List.length_take]; exact small_lt (by omega)
    · intro b o e; exact kpO (s3 _ _ (s1 b o e)) (ne_of_none e hD)
    · rw [hide_upd, take_more he]
      exact DvAll.snoc dy (al.same (hide_same s3))
  · rintro H1 ⟨s1, ys, e1, al⟩
    rw [List.take_of_length_le (by omega)] at al
    exact hd D ys H1 s1 hD e1 (al.same hide_less) al
theorem yat {xs : List V} : ∀ (i : Nat) (H : Hp) (x : V) (H' : Hp), i < xs.length → YAt xs i H x H' → H' = H ∧ xs[i]? = some x := fun _ _ _ _ _ h => h
theorem yfn {f : Nat → V} {n : Nat} : ∀ (i : Nat) (H : Hp) (x : V) (H' : Hp), i < n → YFn f i H x H' → H' = H ∧ x = f i := fun _ _ _ _ _ h => h
/-- over a name that holds a list or a tuple; the results' data by the data's -/
theorem lcS2 (hv : σ[i]? = some (some x)) (hx : Sk K H x xs) (hN : Held N H) (es : List PyData) (hl : es.length = xs.length) (few : xs.length ≤ 1000)
    (hs : ∀ i v e D H1, i < xs.length → xs[i]? = some v → es[i]? = some e → Same H H1 → Held (D :: N) H1 → H D = none → ∀ P : VK, (∀ y H2, Same H1 H2 → Dv K (hide (D :: N) H2) y e → P y H2) → te ((σ.set j none).set j (some v)) H1 P)
    (hd : ∀ D ys H1, Same H H1 → H D = none → H1 D = some (.lst ys) → DvAll K (hide N H1) ys es → DvAll K (hide (D :: N) H1) ys es → Q (.ref D) H1) : tLc (fun σ H R => iList K (tVar i) σ H R ∨ iTup K (tVar i) σ H R) (gName j) tYes te [j] σ H Q := by
  obtain ⟨a, rfl, h | h⟩ := hx
  · exact .inl ⟨_, hv, a, rfl, ⟨xs, h⟩, lcD walk_list (fun H' s => s.seq h) yat hN es hl few hs hd⟩
  · exact .inr ⟨_, hv, a, rfl, ⟨xs, h⟩, lcD walk_tup (fun H' s => Jv.Same.sqT s h) yat hN es hl few hs hd⟩
end
/-- results that are truths -/
theorem dv_bools {K : PySem.W.Frag} {H : Hp} : ∀ {ys : List V} {bs : List Bool}, DvAll K H ys (bs.map PyData.bool) → ys = bs.map V.bl
  | [], [], _ => rfl
  | _, b :: bs, .cons (.bl _) r => by rw [dv_bools r]; rfl
theorem dv_intsV {K : PySem.W.Frag} {H : Hp} : ∀ {ys : List V} {ns : List Int}, DvAll K H ys (ns.map PyData.int) → ys = ns.map V.int
  | [], [], _ => rfl
  | _, b :: bs, .cons (.int _) r => by rw [dv_intsV r]; rfl
end Jv

/-! ### comprehensions of two walks over data -/
namespace Jv
open PySem PySem.Spec PyProof.Rows L2
def rowG (g : PyData → PyData) (r : PyData) : List PyData := ((seqD r).getD []).map g
def upTo (g : PyData → PyData) (ds : List PyData) (m n : Nat) : List PyData := (ds.take m).flatMap (rowG g) ++ (((ds[m]?.map (rowG g)).getD []).take n)
theorem upTo_more {g : PyData → PyData} {ds : List PyData} {m n : Nat} {r d : PyData} {l : List PyData} (hr : ds[m]? = some r) (hl : seqD r = some l) (hd : l[n]? = some d) : upTo g ds m (n + 1) = upTo g ds m n ++ [g d] := by
  unfold upTo
  rw [hr, List.append_assoc]
  congr 1
  show (rowG g r).take (n + 1) = (rowG g r).take n ++ [g d]
  refine take_more ?_
  unfold rowG
  rw [hl]
  show (l.map g)[n]? = _
  rw [List.getElem?_map, hd]; rfl
theorem upTo_next {g : PyData → PyData} {ds : List PyData} {m : Nat} {r : PyData} {l : List PyData} (hr : ds[m]? = some r) (hl : seqD r = some l) : upTo g ds m l.length = upTo g ds (m + 1) 0 := by
  unfold upTo
  rw [hr, take_more hr, List.flatMap_append]
  have : (rowG g r).take l.length = rowG g r := by
    unfold rowG; rw [hl]
    exact List.take_of_length_le (by show (l.map g).length ≤ _; rw [List.length_map]; exact Nat.le_refl _)
  show _ ++ (rowG g r).take l.length = _
  rw [this]
  simp
theorem upTo_end {g : PyData → PyData} {ds : List PyData} : upTo g ds ds.length 0 = ds.flatMap (rowG g) := by
  unfold upTo
  simp
theorem flat_len {f : PyData → List PyData} : ∀ {l : List PyData}, (∀ e ∈ l, (f e).length ≤ 100) → (l.flatMap f).length ≤ l.length * 100
  | [], _ => by simp
  | a :: r, h => by
    have h1 := h a List.mem_cons_self
    have h2 := flat_len (l := r) fun e m => h e (List.mem_cons_of_mem _ m)
    rw [List.flatMap_cons, List.length_append, List.length_cons, Nat.succ_mul]; omega
section
variable {K : PySem.W.Frag} {σ : L2.St} {H : Hp} {te : TE} {Q : VK} {xs : List V} {ds : List PyData} {i a b : Nat} {x : V} {N : List Addr}
theorem lc2W {J : It} {G : Hp → Prop} (w : Walk J xs.length G (YAt xs)) (hG : ∀ H', Same H H' → G H') (al : DvAll K H xs ds) (hN : Held N H) (g : PyData → PyData)
    (hq : ∀ e ∈ ds, ∃ l, seqD e = some l ∧ l.length ≤ 100) (few : ds.length ≤ 100)
    (w1 : ∀ v, wipe ((wipe σ [a, b]).set a (some v)) [a, b] = wipe σ [a, b])
    (w2 : ∀ v u, wipe ((wipe ((wipe σ [a, b]).set a (some v)) [b]).set b (some u)) [b] = wipe ((wipe σ [a, b]).set a (some v)) [b])
    (ha : ∀ v, ((wipe σ [a, b]).set a (some v))[a]? = some (some v))
    (hs : ∀ v u d D H1, Dv K H1 u d → (∃ e ∈ ds, ∃ l, seqD e = some l ∧ d ∈ l) → Same H H1 → Held (D :: N) H1 → H D = none → ∀ P : VK, (∀ y H2, Same H1 H2 → Dv K (hide (D :: N) H2) y (g d) → P y H2) → te ((wipe ((wipe σ [a, b]).set a (some v)) [b]).set b (some u)) H1 P)
    (hd : ∀ D ys H1, Same H H1 → H D = none → H1 D = some (.lst ys) → DvAll K (hide N H1) ys (ds.flatMap (rowG g)) → Q (.ref D) H1) :
    ∀ D, H D = none → ∃ W : Nat → Nat → Hp → Prop, (∃ m, W 0 m (upd H D (.lst []))) ∧ ∀ i m H, W i m H →
      (J.stop i H ∧ Q (.ref D) H) ∨ (J.go i H ∧ ∃ Nx : Hp → Prop, (∀ H', Nx H' → ∃ m', m' < m ∧ W (i + 1) m' H') ∧ ∀ x H', J.yld i H x H' → gName a x (wipe σ [a, b]) H' fun σ2 H2 => wipe σ2 [a, b] = wipe σ [a, b] ∧ tYes σ2 H2 fun c H3 =>
        if c = true then (iList K (tVar a) σ2 H3 fun J1 H4 => ∃ W1 : Nat → Nat → Hp → Prop, (∃ m, W1 0 m H4) ∧ ∀ j k H, W1 j k H →
          (J1.stop j H ∧ Nx H) ∨ (J1.go j H ∧ ∃ Nx1 : Hp → Prop, (∀ H', Nx1 H' → ∃ k', k' < k ∧ W1 (j + 1) k' H') ∧ ∀ x H', J1.yld j H x H' → gName b x (wipe σ2 [b]) H' fun σ3 H5 => wipe σ3 [b] = wipe σ2 [b] ∧ tYes σ3 H5 fun c H6 =>
            if c = true then te σ3 H6 fun y H7 => ∃ acc, H7 D = some (.lst acc) ∧ acc.length < sizeLine ∧ Nx1 (upd H7 D (.lst (acc ++ [y]))) else Nx1 H6)) ∨ (iTup K (tVar a) σ2 H3 fun J1 H4 => ∃ W1 : Nat → Nat → Hp → Prop, (∃ m, W1 0 m H4) ∧ ∀ j k H, W1 j k H →
          (J1.stop j H ∧ Nx H) ∨ (J1.go j H ∧ ∃ Nx1 : Hp → Prop, (∀ H', Nx1 H' → ∃ k', k' < k ∧ W1 (j + 1) k' H') ∧ ∀ x H', J1.yld j H x H' → gName b x (wipe σ2 [b]) H' fun σ3 H5 => wipe σ3 [b] = wipe σ2 [b] ∧ tYes σ3 H5 fun c H6 =>
            if c = true then te σ3 H6 fun y H7 => ∃ acc, H7 D = some (.lst acc) ∧ acc.length < sizeLine ∧ Nx1 (upd H7 D (.lst (acc ++ [y]))) else Nx1 H6))
        else Nx H3) := by
  intro D hD
  have hlen := al.len
  have bound : ∀ m n, (upTo g ds m n).length < 20000 := by
    intro m n
    unfold upTo
    rw [List.length_append, List.length_take]
    have row : ∀ e ∈ ds, (rowG g e).length ≤ 100 := fun e he => by
      obtain ⟨l, h1, h2⟩ := hq e he
      unfold rowG; rw [h1]; show (l.map g).length ≤ 100; rw [List.length_map]; exact h2
    have h1 := flat_len (f := rowG g) (l := ds.take m) fun e he => row e (List.mem_of_mem_take he)
    have h2 : (ds.take m).length ≤ 100 := by rw [List.length_take]; omega
    have h3 : ((ds[m]?.map (rowG g)).getD []).length ≤ 100 := by
      cases e : ds[m]? with
      | none => simp
      | some r => exact row r (List.mem_of_getElem? e)
    omega
  refine ⟨fun m k H1 => k = xs.length - m ∧ m ≤ xs.length ∧ Same H H1 ∧ ∃ ys, H1 D = some (.lst ys) ∧ DvAll K (hide (D :: N) H1) ys (upTo g ds m 0), ⟨xs.length, by omega, by omega, same_new hD, [], upd_same, by unfold upTo; simp; exact .nil⟩, ?_⟩
  rintro m k H1 ⟨rfl, hm, s1, ys, e1, dv⟩
  by_cases lt : m < xs.length
  · refine .inr ⟨w.goes m H1 lt (hG _ s1), fun H' => Same H H' ∧ ∃ ys, H' D = some (.lst ys) ∧ DvAll K (hide (D :: N) H') ys (upTo g ds (m + 1) 0), fun H' h => ⟨xs.length - (m + 1), by omega, rfl, lt, h⟩, ?_⟩
    rintro v H2 hv0
    obtain ⟨e2, hv⟩ := w.yields m H1 v H2 lt (hG _ s1) hv0
    subst e2
    obtain ⟨r, hr, dr⟩ := al.at hv
    have hrm := List.mem_of_getElem? hr
    obtain ⟨l, hl, fl⟩ := hq r hrm
    refine ⟨w1 _, r_yes (r_true (c := true) rfl ?_)⟩
    obtain ⟨us, ⟨p, ep, hp⟩, du⟩ := dr.sk hl
    subst ep
    have hul := du.len
    have core : ∀ (J1 : It) (G1 : Hp → Prop), Walk J1 us.length G1 (YAt us) → (∀ H', Same H H' → G1 H') → ∃ W1 : Nat → Nat → Hp → Prop, (∃ m, W1 0 m H2) ∧ ∀ j k H5, W1 j k H5 →
        (J1.stop j H5 ∧ (Same H H5 ∧ ∃ ys, H5 D = some (.lst ys) ∧ DvAll K (hide (D :: N) H5) ys (upTo g ds (m + 1) 0))) ∨ (J1.go j H5 ∧ ∃ Nx1 : Hp → Prop, (∀ H', Nx1 H' → ∃ k', k' < k ∧ W1 (j + 1) k' H') ∧ ∀ x H', J1.yld j H5 x H' → gName b x (wipe ((wipe σ [a, b]).set a (some (.ref p))) [b]) H' fun σ3 H5 => wipe σ3 [b] = wipe ((wipe σ [a, b]).set a (some (.ref p))) [b] ∧ tYes σ3 H5 fun c H6 =>
          if c = true then te σ3 H6 fun y H7 => ∃ acc, H7 D = some (.lst acc) ∧ acc.length < sizeLine ∧ Nx1 (upd H7 D (.lst (acc ++ [y]))) else Nx1 H6) := by
      intro J1 G1 wk hG1
      refine ⟨fun j k H5 => k = us.length - j ∧ j ≤ us.length ∧ Same H H5 ∧ ∃ ys, H5 D = some (.lst ys) ∧ DvAll K (hide (D :: N) H5) ys (upTo g ds m j), ⟨us.length, by omega, by omega, s1, ys, e1, dv⟩, ?_⟩
      rintro j k H5 ⟨rfl, hj, s5, zs, e5, dz⟩
      by_cases lt2 : j < us.length
      · refine .inr ⟨wk.goes j H5 lt2 (hG1 _ s5), fun H' => Same H H' ∧ ∃ ys, H' D = some (.lst ys) ∧ DvAll K (hide (D :: N) H') ys (upTo g ds m (j + 1)), fun H' h => ⟨us.length - (j + 1), by omega, rfl, lt2, h⟩, ?_⟩
        rintro u H6 hu0
        obtain ⟨e6, hu⟩ := wk.yields j H5 u H6 lt2 (hG1 _ s5) hu0
        subst e6
        obtain ⟨d, hd1, dd⟩ := du.at hu
        refine ⟨w2 _ _, r_yes (r_true (c := true) rfl ?_)⟩
        refine hs _ _ d D _ (dd.same s5) ⟨r, hrm, l, hl, List.mem_of_getElem? hd1⟩ s5 ((hN.same s5).cons e5) hD _ fun y H7 s7 dy => ⟨_, s7 _ _ e5, ?_, ?_, _, upd_same, ?_⟩
        · rw [dz.len]
          exact Nat.lt_of_lt_of_le (bound m j) (by decide)
        · intro c o hc; exact kpO (s7 _ _ (s5 c o hc)) (ne_of_none hc hD)
        · rw [hide_upd, upTo_more hr hl hd1]
          exact DvAll.snoc dy (dz.same (hide_same s7))
      · have ej : j = l.length := by omega
        subst ej
        refine .inl ⟨by rw [← hul]; exact wk.stops H5 (hG1 _ s5), s5, zs, e5, ?_⟩
        rw [← upTo_next hr hl]; exact dz
    rcases hp with hp | hp
    · exact .inl ⟨_, ha _, p, rfl, ⟨us, s1.seq hp⟩, core _ _ walk_list fun H' s => s.seq hp⟩
    · exact .inr ⟨_, ha _, p, rfl, ⟨us, Jv.Same.sqT s1 hp⟩, core _ _ walk_tup fun H' s => Jv.Same.sqT s hp⟩
  · have em : m = xs.length := by omega
    subst em
    refine .inl ⟨w.stops H1 (hG _ s1), hd D ys H1 s1 hD e1 ?_⟩
    rw [hlen, upTo_end] at dv
    exact dv.same hide_less
theorem lc2D (hv : σ[i]? = some (some x)) (hx : Sk K H x xs) (al : DvAll K H xs ds) (hN : Held N H) (g : PyData → PyData)
    (hq : ∀ e ∈ ds, ∃ l, seqD e = some l ∧ l.length ≤ 100) (few : ds.length ≤ 100)
    (w1 : ∀ v, wipe ((wipe σ [a, b]).set a (some v)) [a, b] = wipe σ [a, b])
    (w2 : ∀ v u, wipe ((wipe ((wipe σ [a, b]).set a (some v)) [b]).set b (some u)) [b] = wipe ((wipe σ [a, b]).set a (some v)) [b])
    (ha : ∀ v, ((wipe σ [a, b]).set a (some v))[a]? = some (some v))
    (hs : ∀ v u d D H1, Dv K H1 u d → (∃ e ∈ ds, ∃ l, seqD e = some l ∧ d ∈ l) → Same H H1 → Held (D :: N) H1 → H D = none → ∀ P : VK, (∀ y H2, Same H1 H2 → Dv K (hide (D :: N) H2) y (g d) → P y H2) → te ((wipe ((wipe σ [a, b]).set a (some v)) [b]).set b (some u)) H1 P)
    (hd : ∀ D ys H1, Same H H1 → H D = none → H1 D = some (.lst ys) → DvAll K (hide N H1) ys (ds.flatMap (rowG g)) → Q (.ref D) H1) :
    tLc2 (fun σ H R => iList K (tVar i) σ H R ∨ iTup K (tVar i) σ H R) (gName a) tYes (fun σ H R => iList K (tVar a) σ H R ∨ iTup K (tVar a) σ H R) (gName b) tYes te [a, b] [b] σ H Q := by
  obtain ⟨p, rfl, h | h⟩ := hx
  · exact .inl ⟨_, hv, p, rfl, ⟨xs, h⟩, lc2W walk_list (fun H' s => s.seq h) al hN g hq few w1 w2 ha hs hd⟩
  · exact .inr ⟨_, hv, p, rfl, ⟨xs, h⟩, lc2W walk_tup (fun H' s => Jv.Same.sqT s h) al hN g hq few w1 w2 ha hs hd⟩
end
end Jv

/-! ### data beside an object's change; readings of fields -/
namespace Jv
open PySem PySem.Spec PyProof.Rows L2
section
variable {K : PySem.W.Frag} {H : Hp} {a C dx : Addr} {fs : List (Str × V)} {o : HO}
theorem SqT.ins (ha : H a = some (.ins C dx fs)) {b : Addr} {xs : List V} (h : SqT K H b xs) : SqT K (upd H a o) b xs := by
  rcases h with (h | ⟨u, h⟩) | h
  · exact .inl (.inl (kpO h fun e => by rw [e, ha] at h; cases h))
  · exact .inl (.inr ⟨u, kpO h fun e => by rw [e, ha] at h; cases h⟩)
  · exact .inr h
mutual
theorem Dv.ins (ha : H a = some (.ins C dx fs)) : ∀ {v : V} {d : PyData}, Dv K H v d → Dv K (upd H a o) v d
  | _, _, .non => .non
  | _, _, .bl b => .bl b
  | _, _, .int i => .int i
  | _, _, .str x => .str x
  | _, _, .lst h q => .lst (kpO h fun e => by rw [e, ha] at h; cases h) (DvAll.ins ha q)
  | _, _, .tup h q => .tup (Jv.SqT.ins ha h) (DvAll.ins ha q)
theorem DvAll.ins (ha : H a = some (.ins C dx fs)) : ∀ {vs : List V} {ds : List PyData}, DvAll K H vs ds → DvAll K (upd H a o) vs ds
  | _, _, .nil => .nil
  | _, _, .cons x y => .cons (Dv.ins ha x) (DvAll.ins ha y)
end
theorem r_sfld {ta tv : TE} {f : Str} {D : Ends} {σ : L2.St} (h : tv σ H fun y H1 => ta σ H1 fun x H2 => ∃ a C dx fs, x = .ref a ∧ H2 a = some (.ins C dx fs) ∧ Cls K C ∧ NoAttr K C f ∧ fs.length < 1000 ∧
  D.nx σ (upd H2 a (.ins C dx (putF f y fs)))) : sFld K ta tv f D σ H := h
theorem r_fld {ta : TE} {f : Str} {σ : L2.St} {Q : VK} (h : ta σ H fun x H1 => ∃ a C dx fs v, x = .ref a ∧ H1 a = some (.ins C dx fs) ∧ Cls K C ∧ NoAttr K C f ∧ fs.lookup f = some v ∧ Q v H1) : tFld K ta f σ H Q := h
end
/-- a new tuple of data -/
theorem dv_new {K : PySem.W.Frag} {H : Hp} {N : List Addr} {t : Addr} {xs : List V} {ds : List PyData} (n : H t = none) (hN : Held N H) (h : DvAll K (hide N H) xs ds) : Dv K (hide N (upd H t (.tup xs))) (.ref t) (.tuple ds) :=
  .tup (sqT_at (hide_at (hN.new n) upd_same)) (h.same (hide_same (same_new n)))
theorem dv_newL {K : PySem.W.Frag} {H : Hp} {N : List Addr} {t : Addr} {xs : List V} {ds : List PyData} (n : H t = none) (hN : Held N H) (h : DvAll K (hide N H) xs ds) : Dv K (hide N (upd H t (.lst xs))) (.ref t) (.list ds) :=
  .lst (hide_at (hN.new n) upd_same) (h.same (hide_same (same_new n)))
end Jv

/-! ### comprehensions over what an expression gives; filters of numbers -/
namespace Jv
open PySem PySem.Spec PyProof.Rows L2
section
variable {K : PySem.W.Frag} {σ : L2.St} {H : Hp} {te te0 : TE} {tt : TT} {Q : VK} {xs : List V} {es : List PyData} {j i n : Nat} {x : V} {N : List Addr}
theorem lcS3 (hit : ∀ P : VK, P x H → te0 σ H P) (hx : Sk K H x xs) (hN : Held N H) (es : List PyData) (hl : es.length = xs.length) (few : xs.length ≤ 1000)
    (hs : ∀ i v e D H1, i < xs.length → xs[i]? = some v → es[i]? = some e → Same H H1 → Held (D :: N) H1 → H D = none → ∀ P : VK, (∀ y H2, Same H1 H2 → Dv K (hide (D :: N) H2) y e → P y H2) → te ((σ.set j none).set j (some v)) H1 P)
    (hd : ∀ D ys H1, Same H H1 → H D = none → H1 D = some (.lst ys) → DvAll K (hide N H1) ys es → DvAll K (hide (D :: N) H1) ys es → Q (.ref D) H1) : tLc (fun σ H R => iList K te0 σ H R ∨ iTup K te0 σ H R) (gName j) tYes te [j] σ H Q := by
  obtain ⟨a, rfl, h | h⟩ := hx
  · exact .inl (hit _ ⟨a, rfl, ⟨xs, h⟩, lcD walk_list (fun H' s => s.seq h) yat hN es hl few hs hd⟩)
  · exact .inr (hit _ ⟨a, rfl, ⟨xs, h⟩, lcD walk_tup (fun H' s => Jv.Same.sqT s h) yat hN es hl few hs hd⟩)
theorem filter_more {f : Int → Bool} {ns : List Int} {i : Nat} {z : Int} (h : ns[i]? = some z) : (ns.take (i + 1)).filter f = (ns.take i).filter f ++ if f z = true then [z] else [] := by
  rw [take_more h, List.filter_append]
  congr 1
  by_cases c : f z = true
  · simp [c]
  · simp [c]
/-- the numbers of a list or a tuple at which a test holds -/
theorem lcFW {J : It} {G : Hp → Prop} {ns : List Int} (w : Walk J (ns.map V.int).length G (YAt (ns.map V.int))) (hG : ∀ H', Same H H' → G H') (f : Int → Bool) (few : ns.length ≤ 1000)
    (ht : ∀ z H1, z ∈ ns → Same H H1 → ∀ R : Bool → Hp → Prop, (∀ H2, Same H1 H2 → R (f z) H2) → tt ((σ.set j none).set j (some (.int z))) H1 R)
    (hs : ∀ z H1, ∀ P : VK, P (.int z) H1 → te ((σ.set j none).set j (some (.int z))) H1 P)
    (hd : ∀ D H1, Same H H1 → H D = none → H1 D = some (.lst ((ns.filter f).map V.int)) → Q (.ref D) H1) : ∀ D, H D = none → ∃ W : Nat → Nat → Hp → Prop, (∃ m, W 0 m (upd H D (.lst []))) ∧ ∀ i m H, W i m H →
      (J.stop i H ∧ Q (.ref D) H) ∨ (J.go i H ∧ ∃ Nx : Hp → Prop, (∀ H', Nx H' → ∃ m', m' < m ∧ W (i + 1) m' H') ∧ ∀ x H', J.yld i H x H' → gName j x (wipe σ [j]) H' fun σ2 H2 => wipe σ2 [j] = wipe σ [j] ∧ tt σ2 H2 fun b H3 =>
        if b = true then te σ2 H3 fun y H4 => ∃ acc, H4 D = some (.lst acc) ∧ acc.length < sizeLine ∧ Nx (upd H4 D (.lst (acc ++ [y]))) else Nx H3) := by
  intro D hD
  refine lc_it w (fun i H1 => Same H H1 ∧ H1 D = some (.lst (((ns.take i).filter f).map V.int))) ⟨same_new hD, upd_same⟩ (fun i H1 _ h => hG H1 h.1) ?_ ?_
  · rintro i x H1 H2 hi ⟨s1, e1⟩ ⟨e0, hx⟩
    subst e0
    obtain ⟨z, hz, rfl⟩ := map_at hx
    refine ⟨wipe1, ht z _ (List.mem_of_getElem? hz) s1 _ fun H3 s3 => ?_⟩
    have e3 := s3 _ _ e1
    by_cases c : f z = true
    · rw [if_pos c]
      refine hs z H3 _ ⟨_, e3, ?_, fun b o e => kpO (s3 _ _ (s1 b o e)) (ne_of_none e hD), ?_⟩
      · rw [List.length_map]
        refine small_lt (Nat.lt_of_le_of_lt (List.length_filter_le _ _) ?_)
        rw [List.length_map] at hi
        rw [List.length_take]; omega
      · rw [upd_same, filter_more hz, if_pos c, List.map_append]; rfl
    · rw [if_neg c]
      refine ⟨s1.trans s3, ?_⟩
      rw [filter_more hz, if_neg c, List.append_nil]; exact e3
  · rintro H1 ⟨s1, e1⟩
    rw [List.length_map, List.take_length] at e1
    exact hd D H1 s1 hD e1
theorem lcF2 {ns : List Int} (hv : σ[i]? = some (some x)) (hx : Sk K H x (ns.map V.int)) (f : Int → Bool) (few : ns.length ≤ 1000)
    (ht : ∀ z H1, z ∈ ns → Same H H1 → ∀ R : Bool → Hp → Prop, (∀ H2, Same H1 H2 → R (f z) H2) → tt ((σ.set j none).set j (some (.int z))) H1 R)
    (hs : ∀ z H1, ∀ P : VK, P (.int z) H1 → te ((σ.set j none).set j (some (.int z))) H1 P)
    (hd : ∀ D H1, Same H H1 → H D = none → H1 D = some (.lst ((ns.filter f).map V.int)) → Q (.ref D) H1) : tLc (fun σ H R => iList K (tVar i) σ H R ∨ iTup K (tVar i) σ H R) (gName j) tt te [j] σ H Q := by
  obtain ⟨a, rfl, h | h⟩ := hx
  · exact .inl ⟨_, hv, a, rfl, ⟨_, h⟩, lcFW walk_list (fun H' s => s.seq h) f few ht hs hd⟩
  · exact .inr ⟨_, hv, a, rfl, ⟨_, h⟩, lcFW walk_tup (fun H' s => Jv.Same.sqT s h) f few ht hs hd⟩
end
end Jv

/-! ### comprehensions whose results are lists of the program's own -/
namespace Jv
open PySem PySem.Spec PyProof.Rows L2
section
variable {K : PySem.W.Frag} {σ : L2.St} {H : Hp} {te te0 : TE} {tt : TT} {Q : VK} {xs : List V} {j n : Nat} {x : V} {J : It} {G : Hp → Prop} {Y : Nat → Hp → V → Hp → Prop} {Fx : Nat → V → Prop} {F : Nat → List V}
theorem lcOwnD (w : Walk J n G Y) (hG : ∀ H', Same H H' → G H') (hy : ∀ i H x H', i < n → Y i H x H' → H' = H ∧ Fx i x) (F : Nat → List V) (few : n ≤ 1000)
    (hs : ∀ i v D H1, i < n → Fx i v → Same H H1 → H D = none → ∀ P : VK, (∀ t H2, H1 t = none → Same H1 H2 → H2 t = some (.lst (F i)) → P (.ref t) H2) → te ((σ.set j none).set j (some v)) H1 P)
    (hd : ∀ D (As : List Addr) H1, Same H H1 → H D = none → As.length = n → As.Nodup → D ∉ As → (∀ b ∈ As, H b = none) → H1 D = some (.lst (As.map V.ref)) → (∀ (k : Nat) b, As[k]? = some b → H1 b = some (.lst (F k))) → Q (.ref D) H1) : ∀ D, H D = none → ∃ W : Nat → Nat → Hp → Prop, (∃ m, W 0 m (upd H D (.lst []))) ∧ ∀ i m H, W i m H →
      (J.stop i H ∧ Q (.ref D) H) ∨ (J.go i H ∧ ∃ Nx : Hp → Prop, (∀ H', Nx H' → ∃ m', m' < m ∧ W (i + 1) m' H') ∧ ∀ x H', J.yld i H x H' → gName j x (wipe σ [j]) H' fun σ2 H2 => wipe σ2 [j] = wipe σ [j] ∧ tYes σ2 H2 fun b H3 =>
        if b = true then te σ2 H3 fun y H4 => ∃ acc, H4 D = some (.lst acc) ∧ acc.length < sizeLine ∧ Nx (upd H4 D (.lst (acc ++ [y]))) else Nx H3) := by
  intro D hD
  refine lc_it w (fun i H1 => Same H H1 ∧ ∃ As : List Addr, As.length = i ∧ As.Nodup ∧ D ∉ As ∧ (∀ b ∈ As, H b = none) ∧ H1 D = some (.lst (As.map V.ref)) ∧ ∀ (k : Nat) b, As[k]? = some b → H1 b = some (.lst (F k)))
    ⟨same_new hD, [], rfl, List.nodup_nil, List.not_mem_nil, fun b m => (by cases m), upd_same, fun k b e => (by simp at e)⟩ (fun i H1 _ h => hG H1 h.1) ?_ ?_
  · rintro i x H1 H2 hi ⟨s1, As, e0, nd, nD, hn, e1, al⟩ hx
    obtain ⟨e2, hF⟩ := hy i _ _ _ hi hx
    subst e2
    refine ⟨wipe1, ?_⟩
    refine r_yes ?_
    refine r_true (c := true) rfl ?_
    refine hs i x D _ hi hF s1 hD _ fun t H3 ht s3 et => ?_
    have htA : t ∉ As := fun m => by
      obtain ⟨k, hk, e⟩ := List.getElem_of_mem m
      have := al k t (by rw [List.getElem?_eq_getElem hk, e])
      rw [ht] at this; cases this
    have htD : t ≠ D := fun e => by rw [e, e1] at ht; cases ht
    have htH : H t = none := s1.free ht
    refine ⟨_, s3 _ _ e1, ?_, fun b o e => kpO (s3 _ _ (s1 b o e)) (ne_of_none e hD), As ++ [t], by rw [List.length_append, e0]; rfl, ?_, ?_, ?_, by rw [upd_same, List.map_append]; rfl, ?_⟩
    · rw [List.length_map, e0]; exact small_lt (by omega)
    · refine List.nodup_append.mpr ⟨nd, by simp, fun a ha b hb => ?_⟩
      rw [List.mem_singleton.mp hb]
      exact fun e => htA (e ▸ ha)
    · intro m
      rcases List.mem_append.mp m with m | m
      · exact nD m
      · exact htD (List.mem_singleton.mp m).symm
    · intro b m
      rcases List.mem_append.mp m with m | m
      · exact hn b m
      · rw [List.mem_singleton.mp m]; exact htH
    · intro k b e
      have nb : b ≠ D := fun eb => by
        rw [eb] at e
        rcases List.mem_append.mp (List.mem_of_getElem? e) with m | m
        · exact nD m
        · exact htD (List.mem_singleton.mp m).symm
      rw [upd_ne nb]
      by_cases hk : k < As.length
      · rw [List.getElem?_append_left hk] at e
        exact s3 _ _ (al k b e)
      · have h2 := (List.getElem?_eq_some_iff.mp e).1
        rw [List.length_append] at h2
        have h3 : k = As.length := by simp at h2; omega
        subst h3
        rw [List.getElem?_append_right (Nat.le_refl _), Nat.sub_self] at e
        cases e
        rw [e0]; exact et
  · rintro H1 ⟨s1, As, e0, nd, nD, hn, e1, al⟩
    exact hd D As H1 s1 hD e0 nd nD hn e1 al
/-- over what an expression gives -/
theorem lcOwn (hit : ∀ P : VK, P x H → te0 σ H P) (hx : Sk K H x xs) (F : Nat → List V) (few : xs.length ≤ 1000)
    (hs : ∀ i v D H1, i < xs.length → xs[i]? = some v → Same H H1 → H D = none → ∀ P : VK, (∀ t H2, H1 t = none → Same H1 H2 → H2 t = some (.lst (F i)) → P (.ref t) H2) → te ((σ.set j none).set j (some v)) H1 P)
    (hd : ∀ D (As : List Addr) H1, Same H H1 → H D = none → As.length = xs.length → As.Nodup → D ∉ As → (∀ b ∈ As, H b = none) → H1 D = some (.lst (As.map V.ref)) → (∀ (k : Nat) b, As[k]? = some b → H1 b = some (.lst (F k))) → Q (.ref D) H1) : tLc (fun σ H R => iList K te0 σ H R ∨ iTup K te0 σ H R) (gName j) tYes te [j] σ H Q := by
  obtain ⟨a, rfl, h | h⟩ := hx
  · exact .inl (hit _ ⟨a, rfl, ⟨xs, h⟩, lcOwnD walk_list (fun H' s => s.seq h) yat F few hs hd⟩)
  · exact .inr (hit _ ⟨a, rfl, ⟨xs, h⟩, lcOwnD walk_tup (fun H' s => Jv.Same.sqT s h) yat F few hs hd⟩)
theorem lcOwn2 {i : Nat} (hv : σ[i]? = some (some x)) (hx : Sk K H x xs) (F : Nat → List V) (few : xs.length ≤ 1000)
    (hs : ∀ i v D H1, i < xs.length → xs[i]? = some v → Same H H1 → H D = none → ∀ P : VK, (∀ t H2, H1 t = none → Same H1 H2 → H2 t = some (.lst (F i)) → P (.ref t) H2) → te ((σ.set j none).set j (some v)) H1 P)
    (hd : ∀ D (As : List Addr) H1, Same H H1 → H D = none → As.length = xs.length → As.Nodup → D ∉ As → (∀ b ∈ As, H b = none) → H1 D = some (.lst (As.map V.ref)) → (∀ (k : Nat) b, As[k]? = some b → H1 b = some (.lst (F k))) → Q (.ref D) H1) : tLc (fun σ H R => iList K (tVar i) σ H R ∨ iTup K (tVar i) σ H R) (gName j) tYes te [j] σ H Q :=
  lcOwn (fun P hP => ⟨_, hv, hP⟩) hx F few hs hd
end
/-- data, item by item -/
theorem dvAll_mk {K : PySem.W.Frag} {H : Hp} : ∀ {vs : List V} {ds : List PyData}, vs.length = ds.length → (∀ (i : Nat) v d, vs[i]? = some v → ds[i]? = some d → Dv K H v d) → DvAll K H vs ds
  | [], [], _, _ => .nil
  | v :: vs, d :: ds, hl, h => .cons (h 0 v d rfl rfl) (dvAll_mk (by simpa using hl) fun i v d h1 h2 => h (i + 1) v d h1 h2)
/-- what each item of a row of rows holds -/
theorem rows_of {K : PySem.W.Frag} {H : Hp} {vs : List V} {ds : List PyData} (h : DvAll K H vs ds) (hs : ∀ d ∈ ds, (seqD d).isSome = true) : ∃ F : Nat → List V, ∀ (i : Nat) v d, vs[i]? = some v → ds[i]? = some d → Sk K H v (F i) ∧ ∃ es, seqD d = some es ∧ DvAll K H (F i) es := by
  have h1 : ∀ i : Nat, ∃ X : List V, ∀ v d, vs[i]? = some v → ds[i]? = some d → Sk K H v X ∧ ∃ es, seqD d = some es ∧ DvAll K H X es := fun i => by
    cases e : vs[i]? with
    | none => exact ⟨[], fun v d h _ => by cases h⟩
    | some v =>
      obtain ⟨d, e2, hd⟩ := h.at e
      obtain ⟨es, e3⟩ := Option.isSome_iff_exists.mp (hs d (List.mem_of_getElem? e2))
      obtain ⟨X, k1, k2⟩ := hd.sk e3
      refine ⟨X, fun v' d' h1 h2 => ?_⟩
      cases h1
      rw [e2] at h2; cases h2
      exact ⟨k1, es, e3, k2⟩
  exact ⟨fun i => Classical.choose (h1 i), fun i => Classical.choose_spec (h1 i)⟩
end Jv

/-! ### several except clauses, some with a name -/
namespace Jv
open PySem PySem.Spec PyProof.Rows L2
/-- a suite with the exception's name at slot i -/
def sNamed (i : Nat) (ts : Addr → Value → Option Addr → TS) : Addr → Value → Option Addr → TS := fun e k d D τ H =>
  ts e k d { nx := fun ρ G => D.nx (ρ.set i none) G, rt := D.rt, bk := fun ρ G => D.bk (ρ.set i none) G, ct := fun ρ G => D.ct (ρ.set i none) G } (τ.set i (some (.ref e))) H
inductive Cls2 (X : Cx) : List ExceptHandler → List (Value × (Addr → Value → Option Addr → TS)) → Prop
  | nil : Cls2 X [] []
  | bare {nm : Str} {k : Value} {ts : Addr → Value → Option Addr → TS} {st : Stmt} {sts : List Stmt} {p1 p2 : Pos} {hl : List ExceptHandler} {wl : List (Value × (Addr → Value → Option Addr → TS))} (hk : Names X nm k)
      (su : ∀ (e : Addr) (ob : Obj) (kd : Value) (d : Option Addr) (pq : List (Addr × Obj)), Zc kd d ob → (∃ fs, ob.data = .fields fs) → PSs (X.suite e ((e, ob) :: pq)) (st :: sts) (ts e kd d)) (more : Cls2 X hl wl) :
      Cls2 X (.ExceptHandler (some (.Name nm p1)) none (st :: sts) p2 :: hl) ((k, ts) :: wl)
  | named {nm n : Str} {i : Nat} {k : Value} {ts : Addr → Value → Option Addr → TS} {st : Stmt} {sts : List Stmt} {p1 p2 : Pos} {hl : List ExceptHandler} {wl : List (Value × (Addr → Value → Option Addr → TS))} (nd : X.N.Nodup) (ix : X.N[i]? = some n) (lc : X.env.kindOf n = some .local) (hk : Names X nm k)
      (su : ∀ (e : Addr) (ob : Obj) (kd : Value) (d : Option Addr) (pq : List (Addr × Obj)), Zc kd d ob → (∃ fs, ob.data = .fields fs) → PSs (X.suite e ((e, ob) :: pq)) (st :: sts) (ts e kd d)) (more : Cls2 X hl wl) :
      Cls2 X (.ExceptHandler (some (.Name nm p1)) (some n) (st :: sts) p2 :: hl) ((k, sNamed i ts) :: wl)
section
variable {X : Cx} {body : List Stmt} {h1 : ExceptHandler} {hl : List ExceptHandler} {wl : List (Value × (Addr → Value → Option Addr → TS))} {pos : Pos} {tb : WX → TS} {Wo : WX}
theorem ps_tryMix (hst : X.stack = X.env :: X.outer) (hfr0 : X.env.frame = some X.env.locals) (tk : Takes X Wo) (hh : Cls2 X (h1 :: hl) wl)
    (hb : ∀ (W : WX) (pq : List (Addr × Obj)) (xe : Value → Shared → Prop), Takes (X.tr pq xe) W → PassesOwn (model X.prog X.w) X.A X.env xe → PSs (X.tr pq xe) body (tb W)) :
    PS X (.Try body (h1 :: hl) [] [] pos) (fun D τ H => tb (wMany X.K Wo D wl) D τ H) := by
  refine ⟨fun pins s τ H D I wish => ?_⟩
  have iok := I.ok
  have afr : X.A.frames = some (X.env :: X.outer) := by rw [iok.frames, hst]
  refine wpAny_Try_except ?_
  refine wpAny_mono ((hb (wMany X.K Wo D wl) (X.pn ++ pins) (fun u r1 => wpAny (model X.prog X.w) X.A (noteFrame u X.env) (fun _ r2 => wpAny (model X.prog X.w) X.A (setFlight u none) (fun _ r3 =>
    wpAny (model X.prog X.w) X.A (handleBy u X.env (h1 :: hl)) (SP X pins D) X.xe r3) X.xe r2) X.xe r1) (fun u t xx => ?_) PassesOwn.looking).run [] s τ H D (I.toTry _) wish) (fun f t hsp => ?_) (fun u t he => he)
  · obtain ⟨e, B, sI, pq, ρ, G, kd, d, rfl, J0, nb, up, sky0, ne, os, ag, w⟩ := xx
    have J : Inv X pins ρ G sI := J0.ofTry iok
    have sky : Sky B (X.env :: X.outer) e (Zc kd d) X.env.locals t.heap := by rw [← hst]; exact sky0
    show wpAny (model X.prog X.w) X.A (noteFrame (.ref e) X.env) _ _ _
    refine Sky.land Zc.steady afr hfr0 sky fun g3 fl3 up3 => ?_
    have J3 : Inv X pins ρ G { t with heap := g3 } := J.landed nb fl3.1 (up.trans up3) os ag
    obtain ⟨ob3, fs3, at3, z3, dt3⟩ := fl3.there
    have notIn : e ∉ frs (X.env :: X.outer) := fun m => by
      obtain ⟨_, ob, at', hn⟩ := fl3.2.2.1.mem m
      rw [at3] at at'; cases at'
      exact hn _ dt3
    have nLoc : e ≠ X.env.locals := fun z => notIn (List.mem_filterMap.mpr ⟨X.env, List.mem_cons_self, by rw [hfr0, z]⟩)
    have nFs : e ∉ X.fs := fun m => by
      obtain ⟨v, hv, q⟩ := List.mem_filterMap.mp m
      exact notIn (List.mem_filterMap.mpr ⟨v, List.mem_cons_of_mem _ hv, q⟩)
    have S3 := J3.suite at3 dt3 ne nLoc nFs
    have look : PySem.W.Looks (model X.prog X.w) g3 (typeOf (.ref e)) kd := fun A Q E r k q => wpAny_typeOf_ref (k _ _ at3) (by rw [z3.1]; exact q)
    have test : ∀ {nm : Str} {p1 : Pos} {k : Value} {Q : Value → Shared → Prop} {E : Value → Shared → Prop}, Names X nm k → Q k { t with heap := g3 } → wpAny (model X.prog X.w) (X.A.mark (some (.ref e))) (eval (.Name nm p1) X.env) Q E { t with heap := g3 } := fun {nm p1 k Q E} hk q => by
      obtain ⟨hg, hdb, hm | ⟨hm, hv, hnn⟩⟩ := hk
      · exact ld_glob (X := X.suite e ((e, ob3) :: (X.pn ++ pins))) S3 hg hm q hdb
      · exact ld_blt (X := X.suite e ((e, ob3) :: (X.pn ++ pins))) S3 hg hm hv q hnn hdb
    have all : ∀ {hl2 : List ExceptHandler} {wl2 : List (Value × (Addr → Value → Option Addr → TS))}, Cls2 X hl2 wl2 → wMany X.K Wo D wl2 kd d ρ G →
        wpAny (model X.prog X.w) X.A (handleBy (.ref e) X.env hl2) (SP X pins D) X.xe { t with heap := g3 } := by
      intro hl2 wl2 hc
      induction hc with
      | nil =>
        intro w
        refine wpAny_handleBy_nil ?_
        obtain ⟨k1, k2, k3, ob, fs, T, oT, us, he, hz, hd, hh1, hr⟩ := id fl3
        unfold PySem.passOn
        refine wpAny_bind (wpAny_field he hd hh1 ?_)
        rw [if_neg (show ¬ ((Value.ref T == Value.none) = true) from by simp)]
        have fin : wpAny (model X.prog X.w) X.A (setFlight (.ref e) X.env.frame) (fun _ r4 => wpAny (model X.prog X.w) X.A (throw (.ref e) : Sem Flow) (SP X pins D) X.xe r4) X.xe { t with heap := g3 } := by
          rw [hfr0]
          refine HandSPX.setFlight_upZ fl3 fun g4 hg4 up4 => wpAny_throw (tk _ _ ?_)
          exact ⟨e, B, sI, pins, ρ, G, kd, d, rfl, J, nb, (up.trans up3).trans up4, .inr (.inr (by rw [hst]; exact hg4)), ne, os, ag, w⟩
        first
          | exact wpAny_bind (wpAny_pure (wpAny_bind fin))
          | exact wpAny_bind fin
      | @bare nm k ts st sts p1 p2 hl3 wl3 hk su more ih =>
        intro w
        obtain ⟨b, hb1, yes, no⟩ := w
        refine wpAny_handleBy_cons (codeAny_handlers_test ?_) (by intro q; cases q)
        refine test hk ((PySem.W.exm_one (M := model X.prog X.w) (J3.kIn) look hb1).here ?_)
        cases b with
        | true =>
          refine codeAny_handlers_suite ?_
          refine HandSPX.lands_againZ fl3 fun g4 fl4 up4 => ?_
          have J4 : Inv X pins ρ G { t with heap := g4 } := J.landed nb fl4.1 ((up.trans up3).trans up4) os ag
          obtain ⟨ob4, fs4, at4, z4, dt4⟩ := fl4.there
          have S4 := J4.suite at4 dt4 ne nLoc nFs
          refine wpAny_mono ((su e ob4 kd d (X.pn ++ pins) z4 ⟨_, dt4⟩).run [] _ _ G _ S4 (yes rfl e ne)) (fun f r6 hsp => ?_) (fun _ _ z => False.elim z)
          cases f with
          | ret u =>
            obtain ⟨v6, τ6, G6, S6, rel6, q6⟩ := hsp
            exact ⟨_, _, _, S6.unsuite iok, rel6, q6⟩
          | _ =>
            obtain ⟨τ6, G6, S6, q6⟩ := hsp
            exact ⟨_, _, S6.unsuite iok, q6⟩
        | false =>
          show wpAny _ X.A (handleBy (.ref e) X.env hl3) _ _ _
          exact ih (no rfl)
      | @named nm n i k ts st sts p1 p2 hl3 wl3 nd ix lc hk su more ih =>
        intro w
        obtain ⟨b, hb1, yes, no⟩ := w
        refine wpAny_handleBy_cons (codeAny_handlers_test ?_) (by intro q; cases q)
        refine test hk ((PySem.W.exm_one (M := model X.prog X.w) (J3.kIn) look hb1).here ?_)
        cases b with
        | true =>
          refine codeAny_handlers_suite_as ?_
          refine HandSPX.lands_againZ fl3 fun g4 fl4 up4 => ?_
          have J4 : Inv X pins ρ G { t with heap := g4 } := J.landed nb fl4.1 ((up.trans up3).trans up4) os ag
          obtain ⟨ob4, fs4, at4, z4, dt4⟩ := fl4.there
          have S4 := J4.suite at4 dt4 ne nLoc nFs
          refine store_ok (X := X.suite e ((e, ob4) :: (X.pn ++ pins))) (v := .ref e) S4 nd ix (.inl lc) rfl (fun r5 S5 => ?_) (.inr lc)
          refine wpAny_mono ((su e ob4 kd d (X.pn ++ pins) z4 ⟨_, dt4⟩).run [] r5 _ G _ S5 (yes rfl e ne)) (fun f r6 hsp => ?_) (fun _ _ z => False.elim z)
          have goes : ∀ {τ6 : L2.St} {G6 : Hp} {Q : Shared → Prop}, Inv (X.suite e ((e, ob4) :: (X.pn ++ pins))) [] τ6 G6 r6 → (∀ r7, Inv X pins (τ6.set i none) G6 r7 → Q r7) →
              wpAny (model X.prog X.w) X.A (do bindName X.env n .none; unbindBehindTheSuite X.env n p2) (fun _ r7 => Q r7) X.xe r6 := fun {τ6 G6 Q} S6 hq => gone_ok (S6.unsuite iok) nd ix lc hq
          cases f with
          | ret u =>
            obtain ⟨v6, τ6, G6, S6, rel6, q6⟩ := hsp
            exact goes S6 fun r7 J7 => ⟨_, _, _, J7, rel6, q6⟩
          | _ =>
            obtain ⟨τ6, G6, S6, q6⟩ := hsp
            exact goes S6 fun r7 J7 => ⟨_, _, J7, q6⟩
        | false =>
          show wpAny _ X.A (handleBy (.ref e) X.env hl3) _ _ _
          exact ih (no rfl)
    exact all hh w
  · cases f with
    | next =>
      obtain ⟨ρ, G, J0, q⟩ := hsp
      exact wpAny_execs_nil ⟨ρ, G, J0.ofTry iok, q⟩
    | ret u =>
      obtain ⟨v, ρ, G, J0, rel, q⟩ := hsp
      exact ⟨v, ρ, G, J0.ofTry iok, rel, q⟩
    | _ =>
      obtain ⟨ρ, G, J0, q⟩ := hsp
      exact ⟨ρ, G, J0.ofTry iok, q⟩
end
end Jv

/-! ### trees of lists that are new: each list at its own place, so that one may change -/
namespace Jv
open PySem PySem.Spec PyProof.Rows L2
mutual
inductive Ft (K : PySem.W.Frag) (H : Hp) : V → PyData → List Addr → Prop
  | non : Ft K H .non .none []
  | bl (b : Bool) : Ft K H (.bl b) (.bool b) []
  | int (i : Int) : Ft K H (.int i) (.int i) []
  | str (x : Str) : Ft K H (.str x) (.str x) []
  | lst {a : Addr} {xs : List V} {ds : List PyData} {A : List Addr} : H a = some (.lst xs) → FtAll K H xs ds A → a ∉ A → Ft K H (.ref a) (.list ds) (a :: A)
inductive FtAll (K : PySem.W.Frag) (H : Hp) : List V → List PyData → List Addr → Prop
  | nil : FtAll K H [] [] []
  | cons {v : V} {vs : List V} {d : PyData} {ds : List PyData} {A B : List Addr} : Ft K H v d A → FtAll K H vs ds B → (∀ a ∈ A, a ∉ B) → FtAll K H (v :: vs) (d :: ds) (A ++ B)
end
mutual
theorem Ft.dv {K : PySem.W.Frag} {H : Hp} : ∀ {v : V} {d : PyData} {A : List Addr}, Ft K H v d A → Dv K H v d
  | _, _, _, .non => .non
  | _, _, _, .bl b => .bl b
  | _, _, _, .int i => .int i
  | _, _, _, .str x => .str x
  | _, _, _, .lst h q _ => .lst h (FtAll.dv q)
theorem FtAll.dv {K : PySem.W.Frag} {H : Hp} : ∀ {vs : List V} {ds : List PyData} {A : List Addr}, FtAll K H vs ds A → DvAll K H vs ds
  | _, _, _, .nil => .nil
  | _, _, _, .cons a b _ => .cons (Ft.dv a) (FtAll.dv b)
end
mutual
/-- what is kept at the tree's own places keeps the tree -/
theorem Ft.keep {K : PySem.W.Frag} {H H' : Hp} : ∀ {v : V} {d : PyData} {A : List Addr}, Ft K H v d A → (∀ a ∈ A, ∀ o, H a = some o → H' a = some o) → Ft K H' v d A
  | _, _, _, .non, _ => .non
  | _, _, _, .bl b, _ => .bl b
  | _, _, _, .int i, _ => .int i
  | _, _, _, .str x, _ => .str x
  | _, _, _, .lst h q n, s => .lst (s _ List.mem_cons_self _ h) (FtAll.keep q fun a m => s a (List.mem_cons_of_mem _ m)) n
theorem FtAll.keep {K : PySem.W.Frag} {H H' : Hp} : ∀ {vs : List V} {ds : List PyData} {A : List Addr}, FtAll K H vs ds A → (∀ a ∈ A, ∀ o, H a = some o → H' a = some o) → FtAll K H' vs ds A
  | _, _, _, .nil, _ => .nil
  | _, _, _, .cons a b n, s => .cons (Ft.keep a fun c m => s c (List.mem_append_left _ m)) (FtAll.keep b fun c m => s c (List.mem_append_right _ m)) n
end
section
variable {K : PySem.W.Frag} {H H' : Hp}
theorem FtAll.ints : ∀ ns : List Int, FtAll K H (ns.map V.int) (ns.map PyData.int) []
  | [] => .nil
  | a :: r => by
    have h := FtAll.cons (A := []) (B := []) (Ft.int (K := K) (H := H) a) (FtAll.ints r) (fun _ m => nomatch m)
    exact h
theorem FtAll.app : ∀ {vs ws : List V} {ds es : List PyData} {A B : List Addr}, FtAll K H vs ds A → FtAll K H ws es B → (∀ a ∈ A, a ∉ B) → FtAll K H (vs ++ ws) (ds ++ es) (A ++ B)
  | _, _, _, _, _, _, .nil, q, _ => q
  | _, ws, _, es, _, B, .cons (A := A1) (B := B1) a b n, q, dj => by
    rw [List.cons_append, List.cons_append, List.append_assoc]
    refine .cons a (FtAll.app b q fun c m => dj c (List.mem_append_right _ m)) fun c m => ?_
    intro m2
    rcases List.mem_append.mp m2 with h | h
    · exact n c m h
    · exact dj c (List.mem_append_left _ m) h
theorem FtAll.len : ∀ {vs : List V} {ds : List PyData} {A : List Addr}, FtAll K H vs ds A → vs.length = ds.length
  | _, _, _, .nil => rfl
  | _, _, _, .cons _ b _ => congrArg (· + 1) (FtAll.len b)
/-- one of them, and what a change within it makes of all -/
theorem FtAll.chg : ∀ {vs : List V} {ds : List PyData} {A : List Addr} {i : Nat} {v : V}, FtAll K H vs ds A → vs[i]? = some v → ∃ d B, ds[i]? = some d ∧ Ft K H v d B ∧ (∀ a ∈ B, a ∈ A) ∧
    (∀ w e H', (∀ a ∈ A, a ∉ B → ∀ o, H a = some o → H' a = some o) → Dv K H' w e → DvAll K H' (vs.set i w) (ds.set i e))
  | _, _, _, _, _, .nil, e => by simp at e
  | _, _, _, 0, v, .cons (A := A1) (B := B1) a b n, e => by
    simp at e; subst e
    refine ⟨_, A1, rfl, a, fun c m => List.mem_append_left _ m, fun w e H' s dv => ?_⟩
    exact .cons dv (b.keep fun c m => s c (List.mem_append_right _ m) fun m2 => n c m2 m).dv
  | _, _, _, i + 1, v, .cons (A := A1) (B := B1) a b n, e => by
    simp at e
    obtain ⟨d, B, h1, h2, h3, h4⟩ := FtAll.chg b e
    refine ⟨d, B, h1, h2, fun c m => List.mem_append_right _ (h3 c m), fun w e H' s dv => ?_⟩
    refine .cons (a.keep fun c m => s c (List.mem_append_left _ m) fun m2 => n c m (h3 c m2)).dv (h4 w e H' (fun c m m2 => s c (List.mem_append_right _ m) m2) dv)
mutual
theorem Ft.held : ∀ {v : V} {d : PyData} {A : List Addr}, Ft K H v d A → ∀ a ∈ A, ∃ xs, H a = some (.lst xs)
  | _, _, _, .lst h q _, a, m => by
    rcases List.mem_cons.mp m with rfl | m
    · exact ⟨_, h⟩
    · exact FtAll.held q a m
theorem FtAll.held : ∀ {vs : List V} {ds : List PyData} {A : List Addr}, FtAll K H vs ds A → ∀ a ∈ A, ∃ xs, H a = some (.lst xs)
  | _, _, _, .cons x y _, a, m => by
    rcases List.mem_append.mp m with m | m
    · exact Ft.held x a m
    · exact FtAll.held y a m
end
theorem Ft.same {v : V} {d : PyData} {A : List Addr} (h : Ft K H v d A) (s : Same H H') : Ft K H' v d A := h.keep fun a _ o e => s a o e
end
section
variable {K : PySem.W.Frag} {σ : L2.St} {H : Hp} {te te0 : TE} {Q : VK} {xs : List V} {es : List PyData} {j i n : Nat} {x : V} {J : It} {G : Hp → Prop} {Y : Nat → Hp → V → Hp → Prop} {F : Nat → V → Prop}
theorem lcNew (w : Walk J n G Y) (hG : ∀ H', Same H H' → G H') (hy : ∀ i H x H', i < n → Y i H x H' → H' = H ∧ F i x) (es : List PyData) (hl : es.length = n) (few : n ≤ 1000)
    (hs : ∀ i v e D H1, i < n → F i v → es[i]? = some e → Same H H1 → H D = none → (∃ o, H1 D = some o) → ∀ P : VK, (∀ y A H2, Same H1 H2 → Ft K H2 y e A → (∀ a ∈ A, H1 a = none) → P y H2) → te ((σ.set j none).set j (some v)) H1 P)
    (hd : ∀ D A H1, Same H H1 → Ft K H1 (.ref D) (.list es) A → (∀ a ∈ A, H a = none) → Q (.ref D) H1) : ∀ D, H D = none → ∃ W : Nat → Nat → Hp → Prop, (∃ m, W 0 m (upd H D (.lst []))) ∧ ∀ i m H, W i m H →
      (J.stop i H ∧ Q (.ref D) H) ∨ (J.go i H ∧ ∃ Nx : Hp → Prop, (∀ H', Nx H' → ∃ m', m' < m ∧ W (i + 1) m' H') ∧ ∀ x H', J.yld i H x H' → gName j x (wipe σ [j]) H' fun σ2 H2 => wipe σ2 [j] = wipe σ [j] ∧ tYes σ2 H2 fun b H3 =>
        if b = true then te σ2 H3 fun y H4 => ∃ acc, H4 D = some (.lst acc) ∧ acc.length < sizeLine ∧ Nx (upd H4 D (.lst (acc ++ [y]))) else Nx H3) := by
  intro D hD
  refine lc_it w (fun i H1 => Same H H1 ∧ ∃ ys A, H1 D = some (.lst ys) ∧ FtAll K H1 ys (es.take i) A ∧ ∀ a ∈ A, H a = none ∧ a ≠ D) ⟨same_new hD, [], [], upd_same, .nil, fun _ m => nomatch m⟩ (fun i H1 _ h => hG H1 h.1) ?_ ?_
  · rintro i x H1 H2 hi ⟨s1, ys, A, e1, al, fr⟩ hx
    obtain ⟨e0, hF⟩ := hy i _ _ _ hi hx
    subst e0
    refine ⟨wipe1, ?_⟩
    refine r_yes ?_
    refine r_true (c := true) rfl ?_
    have hie : i < es.length := by omega
    have he := List.getElem?_eq_getElem hie
    refine hs i x _ D _ hi hF he s1 hD ⟨_, e1⟩ _ fun y B H3 s3 dy nB => ⟨_, s3 _ _ e1, ?_, ?_, _, A ++ B, upd_same, ?_, ?_⟩
    · rw [al.len, List.length_take]; exact small_lt (by omega)
    · intro b o e; exact kpO (s3 _ _ (s1 b o e)) (ne_of_none e hD)
    · rw [take_more he]
      have nD : ∀ a ∈ B, a ≠ D := fun a m z => by have := nB a m; rw [z, e1] at this; cases this
      have q : FtAll K (upd H3 D (.lst (ys ++ [y]))) [y] [es[i]] B := by
        have q2 : Ft K (upd H3 D (.lst (ys ++ [y]))) y es[i] B := dy.keep fun a m o e => kpO e (nD a m)
        have q3 := FtAll.cons q2 (FtAll.nil (K := K)) (fun a _ => by simp)
        rw [List.append_nil] at q3
        exact q3
      refine FtAll.app (al.keep fun a m o e => kpO (s3 _ _ e) (fr a m).2) q fun a m m2 => ?_
      obtain ⟨zs, hz⟩ := al.held a m
      rw [nB a m2] at hz; cases hz
    · intro a m
      rcases List.mem_append.mp m with m | m
      · exact fr a m
      · have h1 := nB a m
        refine ⟨?_, fun z => by rw [z, e1] at h1; cases h1⟩
        cases e : H a with
        | none => rfl
        | some o => rw [s1 a o e] at h1; cases h1
  · rintro H1 ⟨s1, ys, A, e1, al, fr⟩
    rw [List.take_of_length_le (by omega)] at al
    exact hd D (D :: A) H1 s1 (.lst e1 al fun m => (fr D m).2 rfl) fun a m => by
      rcases List.mem_cons.mp m with rfl | m
      · exact hD
      · exact (fr a m).1
theorem lcNew2 (hv : σ[i]? = some (some x)) (hx : Sk K H x xs) (es : List PyData) (hl : es.length = xs.length) (few : xs.length ≤ 1000)
    (hs : ∀ i v e D H1, i < xs.length → xs[i]? = some v → es[i]? = some e → Same H H1 → H D = none → (∃ o, H1 D = some o) → ∀ P : VK, (∀ y A H2, Same H1 H2 → Ft K H2 y e A → (∀ a ∈ A, H1 a = none) → P y H2) → te ((σ.set j none).set j (some v)) H1 P)
    (hd : ∀ D A H1, Same H H1 → Ft K H1 (.ref D) (.list es) A → (∀ a ∈ A, H a = none) → Q (.ref D) H1) : tLc (fun σ H R => iList K (tVar i) σ H R ∨ iTup K (tVar i) σ H R) (gName j) tYes te [j] σ H Q := by
  obtain ⟨a, rfl, h | h⟩ := hx
  · exact .inl ⟨_, hv, a, rfl, ⟨xs, h⟩, lcNew walk_list (fun H' s => s.seq h) yat es hl few hs hd⟩
  · exact .inr ⟨_, hv, a, rfl, ⟨xs, h⟩, lcNew walk_tup (fun H' s => Jv.Same.sqT s h) yat es hl few hs hd⟩
end
section
variable {K : PySem.W.Frag} {g : TG} {tb : TS} {D : Ends} {σ : L2.St} {H : Hp} {xs : List V} {x : V} {i : Nat}
/-- a loop over a name that holds a list or a tuple that stays -/
theorem for_sk (hv : σ[i]? = some (some x)) (hx : Sk K H x xs) (Pv : Nat → L2.St → Hp → Prop) (h0 : Pv 0 σ H) (hl : ∀ j σ' H', Pv j σ' H' → Same H H')
    (hs : ∀ j v σ' H', xs[j]? = some v → Pv j σ' H' → g v σ' H' fun σ2 H2 => tb { D with nx := Pv (j + 1), ct := Pv (j + 1), bk := D.nx } σ2 H2) (hd : ∀ σ' H', Pv xs.length σ' H' → D.nx σ' H') :
    iList K (tVar i) σ H (fun it H1 => ∃ W : Nat → Nat → L2.St → Hp → Prop, (∃ m, W 0 m σ H1) ∧ ∀ i m σ H, W i m σ H →
      (it.stop i H ∧ D.nx σ H) ∨ (it.go i H ∧ ∃ N : L2.St → Hp → Prop, (∀ σ' H', N σ' H' → ∃ m', m' < m ∧ W (i + 1) m' σ' H') ∧ ∀ x H', it.yld i H x H' → g x σ H' fun σ2 H2 => tb { D with nx := N, ct := N, bk := D.nx } σ2 H2)) ∨
    iTup K (tVar i) σ H (fun it H1 => ∃ W : Nat → Nat → L2.St → Hp → Prop, (∃ m, W 0 m σ H1) ∧ ∀ i m σ H, W i m σ H →
      (it.stop i H ∧ D.nx σ H) ∨ (it.go i H ∧ ∃ N : L2.St → Hp → Prop, (∀ σ' H', N σ' H' → ∃ m', m' < m ∧ W (i + 1) m' σ' H') ∧ ∀ x H', it.yld i H x H' → g x σ H' fun σ2 H2 => tb { D with nx := N, ct := N, bk := D.nx } σ2 H2)) := by
  obtain ⟨a, rfl, h | h⟩ := hx
  · exact .inl ⟨_, hv, a, rfl, ⟨xs, h⟩, for_list (xs := xs) Pv h0 (fun j σ' H' _ p => (hl j σ' H' p).seq h) hs hd⟩
  · exact .inr ⟨_, hv, a, rfl, ⟨xs, h⟩, for_tup (xs := xs) Pv h0 (fun j σ' H' _ p => Jv.Same.sqT (hl j σ' H' p) h) hs hd⟩
end
section
variable {K : PySem.W.Frag} {g : TG} {tb : TS} {D : Ends} {σ : L2.St} {H H0 : Hp} {xs : List V} {x : V} {i : Nat}
/-- the same with the sequence in an earlier heap -/
theorem for_sk0 (hv : σ[i]? = some (some x)) (hx : Sk K H0 x xs) (s0 : Same H0 H) (Pv : Nat → L2.St → Hp → Prop) (h0 : Pv 0 σ H) (hl : ∀ j σ' H', Pv j σ' H' → Same H0 H')
    (hs : ∀ j v σ' H', xs[j]? = some v → Pv j σ' H' → g v σ' H' fun σ2 H2 => tb { D with nx := Pv (j + 1), ct := Pv (j + 1), bk := D.nx } σ2 H2) (hd : ∀ σ' H', Pv xs.length σ' H' → D.nx σ' H') :
    iList K (tVar i) σ H (fun it H1 => ∃ W : Nat → Nat → L2.St → Hp → Prop, (∃ m, W 0 m σ H1) ∧ ∀ i m σ H, W i m σ H →
      (it.stop i H ∧ D.nx σ H) ∨ (it.go i H ∧ ∃ N : L2.St → Hp → Prop, (∀ σ' H', N σ' H' → ∃ m', m' < m ∧ W (i + 1) m' σ' H') ∧ ∀ x H', it.yld i H x H' → g x σ H' fun σ2 H2 => tb { D with nx := N, ct := N, bk := D.nx } σ2 H2)) ∨
    iTup K (tVar i) σ H (fun it H1 => ∃ W : Nat → Nat → L2.St → Hp → Prop, (∃ m, W 0 m σ H1) ∧ ∀ i m σ H, W i m σ H →
      (it.stop i H ∧ D.nx σ H) ∨ (it.go i H ∧ ∃ N : L2.St → Hp → Prop, (∀ σ' H', N σ' H' → ∃ m', m' < m ∧ W (i + 1) m' σ' H') ∧ ∀ x H', it.yld i H x H' → g x σ H' fun σ2 H2 => tb { D with nx := N, ct := N, bk := D.nx } σ2 H2)) := by
  obtain ⟨a, rfl, h | h⟩ := hx
  · exact .inl ⟨_, hv, a, rfl, ⟨xs, s0.seq h⟩, for_list (xs := xs) Pv h0 (fun j σ' H' _ p => (hl j σ' H' p).seq h) hs hd⟩
  · exact .inr ⟨_, hv, a, rfl, ⟨xs, Jv.Same.sqT s0 h⟩, for_tup (xs := xs) Pv h0 (fun j σ' H' _ p => Jv.Same.sqT (hl j σ' H' p) h) hs hd⟩
end
/-- a tree without lists needs no list -/
theorem sqT_hide {K : PySem.W.Frag} {H : Hp} {N : List Addr} (hN : ∀ b ∈ N, ∃ ys, H b = some (.lst ys)) {a : Addr} {xs : List V} (h : SqT K H a xs) : SqT K (hide N H) a xs := by
  rcases h with (h | ⟨o, h⟩) | h
  · exact .inl (.inl (hide_at (fun m => by obtain ⟨ys, e⟩ := hN a m; rw [h] at e; cases e) h))
  · exact .inl (.inr ⟨o, hide_at (fun m => by obtain ⟨ys, e⟩ := hN a m; rw [h] at e; cases e) h⟩)
  · exact .inr h
theorem DvAll.imp {K : PySem.W.Frag} {H H' : Hp} : ∀ {vs : List V} {ds : List PyData}, DvAll K H vs ds → (∀ v d, d ∈ ds → Dv K H v d → Dv K H' v d) → DvAll K H' vs ds
  | _, _, .nil, _ => .nil
  | _, _, .cons a b, f => .cons (f _ _ List.mem_cons_self a) (DvAll.imp b fun v d m => f v d (List.mem_cons_of_mem _ m))
end Jv

/-! ### == and != of an instance whose class has its own __eq__: any answer, against an instance or a tuple -/
namespace Jv
open PySem PySem.Spec PyProof.Rows L2
section
variable {prog : Program} {w : World} {A : Around} {E : Value → Shared → Prop} {s : Shared} {K : PySem.W.Frag} {x C L f : Addr} {h₀ : Heap} {m : Str → Option Value} {ox : Obj} {od : Option Obj} {b tb : Value}
theorem ifBoundB {M : Model} {name : Str} {id : String} {args : List Value} {Q : Option Value → Shared → Prop} (X : K.In s.heap) (I : PySem.W.InstAt s.heap x ox C od) (hs : PySem.W.findIn K (.ref C) name = some (some (.builtin id)))
    (hb : ∀ self, bindSpecial (.builtin id) self = pure (.builtin id, [self])) (h : wpAny M A (call (.builtin id) (.ref x :: args)) (fun v => Q (some v)) E s) : wpAny M A (callSpecialIfBound? (.ref x) name args) Q E s := by
  simp only [callSpecialIfBound?, bindSpecialIfBound?]
  refine wpAny_holding (wpAny_bind (wpAny_bind (wpAny_bind (I.type.here ((PySem.W.looks_findIn X hs).here ?_)))))
  refine wpAny_bind (wpAny_askSetting (wpAny_ite ?_))
  have fin : wpAny M A (call (.builtin id) ([.ref x] ++ args) >>= fun v => pure (some v)) Q E s := wpAny_bind (wpAny_mono h (fun v s' h' => wpAny_pure h') fun _ _ h' => h')
  simp only [hb]
  split
  · exact wpAny_bind (wpAny_pure (wpAny_pure (by exact fin)))
  · exact wpAny_tryCatch (wpAny_bind (wpAny_pure (wpAny_pure (by exact fin))))
/-- object.__ne__ asks __eq__ and turns its answer round -/
theorem obj_ne {Q : Value → Shared → Prop} (hu : A.in1.units < cLine) (X : K.In s.heap) (I : PySem.W.InstAt s.heap x ox C od) (hm : PySem.W.mroIn K C (.type "object") = some true) (hr : PySem.W.findIn K (.ref C) "__eq__" = some (some (.ref f))) (hf : PySem.W.isFn K (.ref f) = true)
    (h : wpAny (model prog w) A.in1 (call (.ref f) [.ref x, b]) (fun v s' => ∃ r, v = .bool r ∧ Q (.bool (!r)) s') E s) : wpAny (model prog w) A (call (.builtin "object.__ne__") [.ref x, b]) Q E s := by
  refine wpAny_call (codeAny_call_builtin PySem.F.slot_object_ne.plain PySem.F.entry_object_ne (PySem.W.check_slot (i := "object.__ne__") (owner := "object") (n := "__ne__") PySem.F.cmpKind_ne PySem.F.cmpSplit_ne (I.type.andThen (PySem.W.looks_mroIn X hm)) (PySem.F.cmpArgs_ne _ _) ?_))
  unfold Builtin.«object.__ne__»
  refine wpAny_bind (m := slotArgs "__ne__" 1 _) (wpAny_pure ?_)
  show wpAny _ A.in1 (do
    cRoomFor "comparison" [.ref x, b]
    let r ← callSpecialIfBound? (.ref x) (Str.ofString "__eq__") [b]
    _) _ _ s
  refine wpAny_bind (m := cRoomFor _ _) (wpAny_cRoomFor hu ?_)
  refine wpAny_bind (m := callSpecialIfBound? (.ref x) (Str.ofString "__eq__") _) (PySem.W.ifBound_K X I hr hf (wpAny_mono h (fun r s' hq => ?_) fun _ _ y => y))
  obtain ⟨r, rfl, hq⟩ := hq
  repeat (first | exact hq | exact wpAny_pure hq | (refine wpAny_bind (m := truthy (.bool _)) (wpAny_truthy_bool ?_)) | wp_step)
theorem ne_K {Q : Value → Shared → Prop} (hu : A.units < cLine) (hu1 : A.in1.units < cLine) (F : Fr h₀ L s.heap m) (X₀ : K.In h₀) (I : PySem.W.InstAt s.heap x ox C od) (hb : PySem.W.Looks (model prog w) s.heap (typeOf b) tb) (hn : PySem.W.notFirst K C tb = true)
    (hs : PySem.W.findIn K (.ref C) "__ne__" = some (some (.builtin "object.__ne__"))) (hm : PySem.W.mroIn K C (.type "object") = some true) (hr : PySem.W.findIn K (.ref C) "__eq__" = some (some (.ref f))) (hf : PySem.W.isFn K (.ref f) = true)
    (h : wpAny (model prog w) A.in1 (call (.ref f) [.ref x, b]) (fun v s' => ∃ r, v = .bool r ∧ Q (.bool (!r)) s') E s) : wpAny (model prog w) A (richCompare .NotEq (.ref x) b) Q E s := by
  have X := X₀.keeps F.keep
  have one : wpAny (model prog w) A (tryCompare (.ref x) "__ne__" b) (fun r s' => ∃ v, r = some v ∧ Q v s') E s := by
    unfold tryCompare
    refine wpAny_bind (ifBoundB X I hs PySem.F.slot_object_ne.bind (obj_ne hu1 X I hm hr hf (wpAny_mono h (fun v s' hv => ?_) fun _ _ e => e)))
    obtain ⟨r, rfl, hq⟩ := hv
    exact ⟨r, rfl, wpAny_pure ⟨_, rfl, hq⟩⟩
  unfold richCompare
  simp only [oneThing_ref]
  refine wpAny_holding (wpAny_bind (wpAny_cRoomFor hu ?_))
  rw [cmpInfo_NotEq]
  dsimp only
  refine wpAny_bind (I.type.here (wpAny_bind (hb.here ?_)))
  split
  · rename_i q
    have e : PySem.W.subIn K tb (.ref C) = some false := by
      rcases Bool.or_eq_true_iff.mp hn with e | e
      · rw [beq_iff_eq.mp e] at q; simp at q
      · exact beq_iff_eq.mp e
    refine wpAny_bind ((PySem.W.looks_subIn X e).here ?_)
    simp only [Bool.false_eq_true, if_false]
    refine wpAny_bind (wpAny_mono one (fun r s' z => ?_) fun _ _ e => e)
    obtain ⟨v, rfl, hq⟩ := z
    exact wpAny_pure hq
  · refine wpAny_bind (wpAny_pure ?_)
    simp only [Bool.false_eq_true, if_false]
    refine wpAny_bind (wpAny_mono one (fun r s' z => ?_) fun _ _ e => e)
    obtain ⟨v, rfl, hq⟩ := z
    exact wpAny_pure hq
end
section
variable {X : Cx} {CX : CXT} {pins : List (Addr × Obj)} {σ : L2.St} {H : Hp} {s : Shared} {C f : Addr} {fd : FuncData} {ps : List Str} {k : Nat} {sp : Sp} {E : XK}
theorem run_in {A : Around} {Q : VK} {us : List Value} {ws : List V} (F : FnOk X.prog X.w X.K X.mg X.base CX k f fd ps sp) (hb : Binds X.K fd ps []) (hr : Room k A) (hf : A.frames = X.A.frames) (hx : Passes CX X E) (I : Inv X pins σ H s) (r : Vals ws us) (h : sp ws H Q E) :
    wpAny (model X.prog X.w) A (call (.ref f) us) (EP X pins σ Q) X.xe s := by
  have e0 : Env0 X.prog X.w X.K X.mg X.base A X.stack s H := by
    have e := I.env0
    exact ⟨by rw [hf]; exact e.frames, e.mod, e.bs, e.bsz, e.funs, e.frf, e.hok, e.bare⟩
  have hl : us.length = ps.length := by rw [← r.length]; exact F.len _ _ _ _ h
  refine wpAny_call (codeAny_mono (F.run A X.stack s H ⟨us, []⟩ us ws Q E hr e0 (by
    have := hb s us I.kIn (by simpa using hl)
    simpa using this) r h) fun r s' hq => ?_)
  cases r with
  | error e => exact hx pins σ H s e s' I hq
  | ok fl =>
    cases fl with
    | ret u => exact I.after hq
    | next => exact False.elim hq
    | brk => exact False.elim hq
    | cont => exact False.elim hq
/-- x op y: x an instance of the class at C, y one too or a tuple -/
def rEqO (K : PySem.W.Frag) (C : Addr) (sp : Sp) (E : XK) : R2 := fun x y H Q => ∃ a dx fs b, x = .ref a ∧ y = .ref b ∧ H a = some (.ins C dx fs) ∧ ((∃ dy gs, H b = some (.ins C dy gs)) ∨ ∃ ys, SqT K H b ys) ∧ sp [x, y] H (fun v H' => ∃ r, v = .bl r ∧ Q (.bl r) H') E
def rNeO (K : PySem.W.Frag) (C : Addr) (sp : Sp) (E : XK) : R2 := fun x y H Q => ∃ a dx fs b, x = .ref a ∧ y = .ref b ∧ H a = some (.ins C dx fs) ∧ ((∃ dy gs, H b = some (.ins C dy gs)) ∨ ∃ ys, SqT K H b ys) ∧ sp [x, y] H (fun v H' => ∃ r, v = .bl r ∧ Q (.bl (!r)) H') E
theorem looksO {b : Addr} (I : Inv X pins σ H s) (nt : PySem.W.notFirst X.K C (.type "tuple") = true) (h : (∃ dy gs, H b = some (.ins C dy gs)) ∨ ∃ ys, SqT X.K H b ys) : ∃ tb, PySem.W.Looks (model X.prog X.w) s.heap (typeOf (.ref b)) tb ∧ PySem.W.notFirst X.K C tb = true := by
  rcases h with ⟨dy, gs, hb⟩ | ⟨ys, hb⟩
  · obtain ⟨mB, J', _⟩ := ins_get I.hok hb
    obtain ⟨od', J', _⟩ := J'.look
    exact ⟨.ref C, J'.type, by simp [PySem.W.notFirst]⟩
  · obtain ⟨its, r, e, z⟩ := I.tuple hb
    obtain ⟨o, ho, hc, n, hd⟩ := id e
    have h1 : PySem.W.Looks (model X.prog X.w) s.heap (typeOf (.ref b)) o.cls := PySem.W.Looks.ld (part := none) ho |>.andThen .now
    rw [hc] at h1
    exact ⟨_, h1, nt⟩
theorem op_eqO (F : FnOk X.prog X.w X.K X.mg X.base CX k f fd ps sp) (hm : Meth X.K C "__eq__" f) (nt : PySem.W.notFirst X.K C (.type "tuple") = true) (hr : Room k X.A) (hb : Binds X.K fd ps []) (hx : Passes CX X E) : OpR X (compareOp .Eq) (rEqO X.K C sp E) := by
  intro pins s σ H x y v u Q I rx ry h
  obtain ⟨a, dx, fs, b, rfl, rfl, ha, hy, q⟩ := h
  cases (show v = Value.ref a from rx)
  cases (show u = Value.ref b from ry)
  obtain ⟨mA, J, _⟩ := ins_get I.hok ha
  obtain ⟨od, J, _⟩ := J.look
  obtain ⟨m, hF⟩ := I.fr
  obtain ⟨tb, hl, hn⟩ := looksO I nt hy
  show wpAny (model X.prog X.w) X.A (richCompare .Eq (.ref a) (.ref b)) _ _ s
  refine PySem.W.cmp_K (op := .Eq) (tb := tb) hr.units0 hF I.ok.mod.kin J hl hn hm.at_ hm.fn ?_
  refine wpAny_mono (run_in (us := [.ref a, .ref b]) (ws := [.ref a, .ref b]) F hb hr rfl hx I (.cons rfl (.cons rfl .nil)) q) (fun w s' z => ?_) fun _ _ x => x
  obtain ⟨z', H', I', rz, r, er, qz⟩ := z
  subst er
  cases (show w = Value.bool r from rz)
  exact ⟨.bl r, H', I', rfl, qz⟩
theorem op_neO (F : FnOk X.prog X.w X.K X.mg X.base CX k f fd ps sp) (hm : Meth X.K C "__eq__" f) (hs : PySem.W.findIn X.K (.ref C) "__ne__" = some (some (.builtin "object.__ne__"))) (ho : PySem.W.mroIn X.K C (.type "object") = some true) (nt : PySem.W.notFirst X.K C (.type "tuple") = true)
    (hr : Room (k + 1) X.A) (hb : Binds X.K fd ps []) (hx : Passes CX X E) : OpR X (compareOp .NotEq) (rNeO X.K C sp E) := by
  intro pins s σ H x y v u Q I rx ry h
  obtain ⟨a, dx, fs, b, rfl, rfl, ha, hy, q⟩ := h
  cases (show v = Value.ref a from rx)
  cases (show u = Value.ref b from ry)
  obtain ⟨mA, J, _⟩ := ins_get I.hok ha
  obtain ⟨od, J, _⟩ := J.look
  obtain ⟨m, hF⟩ := I.fr
  obtain ⟨tb, hl, hn⟩ := looksO I nt hy
  show wpAny (model X.prog X.w) X.A (richCompare .NotEq (.ref a) (.ref b)) _ _ s
  refine ne_K (tb := tb) hr.units0 hr.in1.units0 hF I.ok.mod.kin J hl hn hs ho hm.at_ hm.fn ?_
  refine wpAny_mono (run_in (us := [.ref a, .ref b]) (ws := [.ref a, .ref b]) F hb hr.in1 rfl hx I (.cons rfl (.cons rfl .nil)) q) (fun w s' z => ?_) fun _ _ x => x
  obtain ⟨z', H', I', rz, r, er, qz⟩ := z
  subst er
  cases (show w = Value.bool r from rz)
  exact ⟨r, rfl, .bl (!r), H', I', rfl, qz⟩
end
/-- what isinstance takes as the type of a tuple -/
theorem tyT {K : PySem.W.Frag} {H : Hp} {a : Addr} {xs : List V} (h : SqT K H a xs) : TyX K H (.ref a) (.type "tuple") := by
  rcases h with (h | ⟨o, h⟩) | h
  · exact .base (.tup h)
  · exact .fTuple h
  · obtain ⟨o, _, _, e, c, _⟩ := h
    exact .kTuple e c
end Jv

/-! ### the walk through a reading -/
local macro_rules | `(tactic| walk_at "r1") => `(tactic| first
  | with_reducible refine Jv.r_seq ?_
  | with_reducible refine Jv.r_asg ?_
  | with_reducible refine Jv.r_gn ?_
  | with_reducible refine Jv.r_ret ?_
  | with_reducible refine Jv.r_retN ?_
  | with_reducible refine Jv.r_drop ?_
  | with_reducible refine Jv.r_if ?_
  | with_reducible refine Jv.r_next ?_
  | with_reducible refine Jv.r_brk ?_
  | with_reducible refine Jv.r_cont ?_
  | ((with_reducible refine' Jv.r_var ?hv ?_); (case hv => rfl))
  | with_reducible refine Jv.r_c ?_
  | with_reducible refine Jv.r_op ?_
  | with_reducible refine Jv.r_un ?_
  | with_reducible refine Jv.r_I0 ?_
  | with_reducible refine Jv.r_U ?_
  | ((with_reducible refine Jv.r_eq ?hs ?_); (case hs => rfl))
  | ((with_reducible refine Jv.r_ne ?hs ?_); (case hs => rfl))
  | with_reducible refine Jv.r_test ?_
  | with_reducible refine Jv.r_B ?_
  | with_reducible refine Jv.r_bl ?_
  | with_reducible refine Jv.r_and ?_
  | with_reducible refine Jv.r_or ?_
  | with_reducible refine Jv.r_not ?_
  | with_reducible refine Jv.r_andV ?_
  | with_reducible refine Jv.r_orV ?_
  | with_reducible refine Jv.r_notV ?_
  | with_reducible refine Jv.r_ife ?_
  | with_reducible refine Jv.r_chain ?_
  | with_reducible refine Jv.r_nil ?_
  | with_reducible refine Jv.r_cons ?_
  | with_reducible refine Jv.r_tup ?_
  | with_reducible refine Jv.r_lst ?_
  | with_reducible refine Jv.r_CB ?_
  | with_reducible refine Jv.r_call ?_
  | with_reducible refine Jv.r_callS ?_
  | with_reducible refine Jv.r_for ?_
  | with_reducible refine Jv.r_iR1 ?_
  | with_reducible refine Jv.r_iR2 ?_
  | with_reducible refine Jv.r_sub ?_
  | with_reducible refine Jv.r_int ?_)
local macro_rules | `(tactic| walk_at "r") => `(tactic| (repeat walk_at "r1"))

local macro_rules | `(tactic| walk_at "cond") => `(tactic| first
  | exact Or.inr ⟨by decide, by decide⟩
  | exact Or.inl ⟨by decide, by decide⟩
  | exact ⟨by decide, by decide⟩
  | exact ⟨by assumption, by assumption⟩
  | exact ⟨by decide, by decide, by decide⟩
  | (show (0 : Int) < _; first | decide | omega)
  | exact Jv.cdivS (by omega) (by omega)
  | exact Or.inr ⟨by omega, by omega⟩
  | exact Or.inl ⟨by omega, by omega⟩)
local macro_rules | `(tactic| walk_at "r1") => `(tactic| ((with_reducible refine Jv.r_I ?hc ?_); (case hc => walk_at "cond")))

local macro_rules | `(tactic| walk_at "ne") => `(tactic| first
  | assumption
  | exact Ne.symm (by assumption)
  | exact L2.ne_of_none (by walk_at "hp") (by assumption)
  | exact Ne.symm (L2.ne_of_none (by walk_at "hp") (by assumption)))
local macro_rules | `(tactic| walk_at "hp") => `(tactic| first
  | assumption
  | exact L2.upd_same
  | ((refine' Jv.kp ?hp1 ?hp2); (case hp2 => assumption); (case hp1 => walk_at "hp"))
  | ((refine' Jv.kpO ?hp1 ?hp2); (case hp1 => walk_at "hp"); (case hp2 => walk_at "ne")))
local macro_rules | `(tactic| walk_at "sq") => `(tactic| first
  | assumption
  | ((refine' Jv.sqT_at ?sq1); (case sq1 => walk_at "hp"))
  | ((refine' Jv.sqL_at ?sq1); (case sq1 => walk_at "hp"))
  | ((refine' Jv.sqT_new ?sq1 ?sq2); (case sq2 => assumption); (case sq1 => walk_at "sq"))
  | ((refine' Jv.sqL_new ?sq1 ?sq2); (case sq2 => assumption); (case sq1 => walk_at "sq"))
  | ((refine' L2.Same.seq ?sq1 ?sq2); (case sq1 => assumption); (case sq2 => assumption))
  | ((refine' Jv.Same.sqT ?sq1 ?sq2); (case sq1 => assumption); (case sq2 => assumption)))
local macro_rules | `(tactic| walk_at "r1") => `(tactic| first
  | ((with_reducible refine' Jv.r_gtup ?hq ?hl ?_); (case hq => walk_at "sq"); (case hl => rfl))
  | with_reducible refine Jv.r_gcons ?_
  | with_reducible refine Jv.r_gnil ?_
  | with_reducible refine Jv.r_iEn ?_
  | with_reducible refine Jv.r_iL ?_
  | with_reducible refine Jv.r_iT ?_
  | with_reducible refine Jv.r_yes ?_
  | with_reducible refine Jv.r_ift ?_
  | with_reducible refine Jv.r_iff ?_
  | ((with_reducible refine' Jv.r_new ?hn ?_); (case hn => exact Nat.le_of_ble_eq_true rfl))
  | ((with_reducible refine' Jv.r_wipe ?he ?_); (case he => rfl)))
local macro_rules | `(tactic| walk_at "len") => `(tactic| first
  | exact Or.inl (by walk_at "sq")
  | exact Or.inr (by walk_at "sq"))
local macro_rules | `(tactic| walk_at "r1") => `(tactic| first
  | ((with_reducible refine' Jv.r_ixL ?hs ?he ?_); (case hs => walk_at "sq"); (case he => rfl))
  | ((with_reducible refine' Jv.r_ixT ?hs ?he ?_); (case hs => walk_at "sq"); (case he => rfl))
  | ((with_reducible refine' Jv.r_setL ?hs ?he ?_); (case hs => walk_at "hp"); (case he => rfl))
  | ((with_reducible refine' Jv.r_len ?hs ?_); (case hs => walk_at "len")))
local macro_rules | `(tactic| walk_at "th") => `(tactic| first
  | assumption
  | exact Jv.Th.same (by assumption) (by assumption)
  | exact Jv.Th.same (by assumption) (Jv.same_new (by assumption))
  | exact trivial)
local macro_rules | `(tactic| walk_at "r1") => `(tactic| first
  | ((with_reducible refine' Jv.r_isB ?hx ?_); (case hx => walk_at "th"))
  | ((with_reducible refine' Jv.r_isI ?hx ?_); (case hx => walk_at "th"))
  | ((with_reducible refine' Jv.r_isS ?hp ?hx ?_); (case hp => walk_at "hp"); (case hx => walk_at "th"))
  | ((with_reducible refine' Jv.r_false ?he ?_); (case he => rfl))
  | ((with_reducible refine' Jv.r_true ?he ?_); (case he => rfl))
  | with_reducible refine Jv.r_rfl ?_)
local macro_rules | `(tactic| walk_at "r2") => `(tactic| first
  | walk_at "r1"
  | ((with_reducible refine' Jv.r_dec1 ?hd ?_); (case hd => omega))
  | ((with_reducible refine' Jv.r_dec0 ?hd ?_); (case hd => omega))
  | with_reducible refine Jv.r_decI (fun _ => ?_) (fun _ => ?_)
  | with_reducible refine Jv.r_ndecI (fun _ => ?_) (fun _ => ?_)
  | with_reducible refine Jv.r_dec (fun _ => ?_) (fun _ => ?_)
  | with_reducible refine Jv.r_ndec (fun _ => ?_) (fun _ => ?_))
local macro_rules | `(tactic| walk_at "rr") => `(tactic| (repeat' walk_at "r2"))
local macro_rules | `(tactic| walk_at "r1") => `(tactic| first
  | with_reducible refine Jv.r_min ?_
  | with_reducible refine Jv.r_max ?_
  | with_reducible refine Jv.r_absN ?_
  | with_reducible refine Jv.r_intN ?_)
local macro_rules | `(tactic| walk_at "r1") => `(tactic| first
  | with_reducible refine Jv.r_bm ?_
  | ((with_reducible refine' Jv.r_tyL ?hp ?_); (case hp => walk_at "hp")))

local macro_rules | `(tactic| walk_at "r1") => `(tactic| first
  | with_reducible refine Jv.r_callN ?_
  | with_reducible refine Jv.r_disp1 ?_
  | with_reducible refine Jv.r_same ?_)

local macro_rules | `(tactic| walk_at "dv") => `(tactic| first
  | assumption
  | exact Jv.Dv.same (by assumption) (by assumption)
  | exact Jv.Dv.same (Jv.same_new (by assumption)) (by assumption)
  | exact Jv.Dv.int _
  | exact Jv.Dv.non
  | exact Jv.Dv.bl _)
local macro_rules | `(tactic| walk_at "r1") => `(tactic| first
  | ((with_reducible refine' Jv.d_isB ?hx ?_); (case hx => walk_at "dv"))
  | ((with_reducible refine' Jv.d_isI ?hx ?_); (case hx => walk_at "dv"))
  | ((with_reducible refine' Jv.d_isS ?hp ?hx ?_); (case hp => walk_at "hp"); (case hx => walk_at "dv")))

namespace K49
open PySem PySem.Spec PyProof.Rows L2
def topS (i : Nat) : Stmt := PySem.Challenge.pw_risingcalls_k49_costs_made_and_refused.main.body.getD i (.Pass ⟨0, 0, 0, 0⟩)
abbrev s_BadLotu_initu : Stmt := inClass (topS 2) 0
abbrev s_BadCostsu_initu : Stmt := inClass (topS 4) 0
abbrev s_is_whole : Stmt := topS 11
abbrev s_is_sequence : Stmt := topS 12
abbrev s_check_side : Stmt := topS 13
abbrev s_are_sides : Stmt := topS 14
abbrev s_are_kinds : Stmt := topS 15
abbrev s_is_order : Stmt := topS 16
abbrev s_check_side_order : Stmt := topS 17
abbrev s_sides_of_lines : Stmt := topS 19
abbrev s_renumbered_lines : Stmt := topS 20
abbrev s_is_entry : Stmt := topS 23
abbrev s_Costsu_initu : Stmt := inClass (topS 24) 0
abbrev s_Costsu_equ : Stmt := inClass (topS 24) 1
abbrev s_Costs_cut : Stmt := inClass (topS 24) 2
abbrev s_Costs_added : Stmt := inClass (topS 24) 3
abbrev s_Costs_renumbered : Stmt := inClass (topS 24) 4
abbrev s_Lmix : Stmt := topS 26
abbrev s_Lhand : Stmt := topS 27
abbrev s_Ldraw : Stmt := topS 28
abbrev s_Lwhole : Stmt := topS 29
abbrev s_Ldrawn : Stmt := topS 30
abbrev s_Ltuples : Stmt := topS 31
abbrev s_Llists : Stmt := topS 32
abbrev s_Ldue : Stmt := topS 33
abbrev s_Lmade : Stmt := topS 34
abbrev s_Lspoil_entry : Stmt := topS 35
abbrev s_Lspoil_lines : Stmt := topS 36
abbrev s_Lrefused : Stmt := topS 37
abbrev s_Lcut : Stmt := topS 38
abbrev s_Ladded : Stmt := topS 39
abbrev s_Ladded_due : Stmt := topS 40
abbrev s_Lorder : Stmt := topS 41
abbrev s_Lis_order : Stmt := topS 42
abbrev s_Lrenumbered : Stmt := topS 43
abbrev s_Lrenumbered_due : Stmt := topS 44
abbrev s_Lturned : Stmt := topS 45
abbrev s_Lcase : Stmt := topS 46
abbrev s_law : Stmt := topS 47
theorem sc_BadLotu_initu : FnScope ["self", "side"] ["self", "side"] (defScope s_BadLotu_initu) := ⟨rfl, rfl, rfl, by decide +kernel, rfl, by decide +kernel, by decide +kernel⟩
theorem sc_BadCostsu_initu : FnScope ["self", "what"] ["self", "what"] (defScope s_BadCostsu_initu) := ⟨rfl, rfl, rfl, by decide +kernel, rfl, by decide +kernel, by decide +kernel⟩
theorem sc_is_whole : FnScope ["thing", "low", "high"] ["thing", "low", "high"] (defScope s_is_whole) := ⟨rfl, rfl, rfl, by decide +kernel, rfl, by decide +kernel, by decide +kernel⟩
theorem sc_is_sequence : FnScope ["thing"] ["thing"] (defScope s_is_sequence) := ⟨rfl, rfl, rfl, by decide +kernel, rfl, by decide +kernel, by decide +kernel⟩
theorem sc_check_side : FnScope ["side"] ["side"] (defScope s_check_side) := ⟨rfl, rfl, rfl, by decide +kernel, rfl, by decide +kernel, by decide +kernel⟩
theorem sc_are_sides : FnScope ["thing", "kinds"] ["thing"] (defScope s_are_sides) := ⟨rfl, rfl, rfl, by decide +kernel, rfl, by decide +kernel, by decide +kernel⟩
theorem sc_are_kinds : FnScope ["thing", "kinds", "kind"] ["thing", "kinds"] (defScope s_are_kinds) := ⟨rfl, rfl, rfl, by decide +kernel, rfl, by decide +kernel, by decide +kernel⟩
theorem sc_is_order : FnScope ["thing", "many"] ["thing", "many"] (defScope s_is_order) := ⟨rfl, rfl, rfl, by decide +kernel, rfl, by decide +kernel, by decide +kernel⟩
theorem sc_check_side_order : FnScope ["order", "kinds", "side"] ["order", "kinds", "side"] (defScope s_check_side_order) := ⟨rfl, rfl, rfl, by decide +kernel, rfl, by decide +kernel, by decide +kernel⟩
theorem sc_sides_of_lines : FnScope ["lines", "lengths", "line"] ["lines"] (defScope s_sides_of_lines) := ⟨rfl, rfl, rfl, by decide +kernel, rfl, by decide +kernel, by decide +kernel⟩
theorem sc_renumbered_lines : FnScope ["lines", "side", "order", "line", "kind"] ["lines", "side", "order"] (defScope s_renumbered_lines) := ⟨rfl, rfl, rfl, by decide +kernel, rfl, by decide +kernel, by decide +kernel⟩
theorem sc_is_entry : FnScope ["thing", "ladder", "cost"] ["thing", "ladder"] (defScope s_is_entry) := ⟨rfl, rfl, rfl, by decide +kernel, rfl, by decide +kernel, by decide +kernel⟩
theorem sc_Costsu_initu : FnScope ["self", "ladder", "lines", "sides", "line", "entry"] ["self", "ladder", "lines"] (defScope s_Costsu_initu) := ⟨rfl, rfl, rfl, by decide +kernel, rfl, by decide +kernel, by decide +kernel⟩
theorem sc_Costsu_equ : FnScope ["self", "other"] ["self", "other"] (defScope s_Costsu_equ) := ⟨rfl, rfl, rfl, by decide +kernel, rfl, by decide +kernel, by decide +kernel⟩
theorem sc_Costs_cut : FnScope ["self", "ladder", "line", "entry"] ["self", "ladder"] (defScope s_Costs_cut) := ⟨rfl, rfl, rfl, by decide +kernel, rfl, by decide +kernel, by decide +kernel⟩
theorem sc_Costs_added : FnScope ["self", "amount", "line", "entry", "cost"] ["self", "amount"] (defScope s_Costs_added) := ⟨rfl, rfl, rfl, by decide +kernel, rfl, by decide +kernel, by decide +kernel⟩
theorem sc_Costs_renumbered : FnScope ["self", "side", "order", "turned"] ["self", "side", "order"] (defScope s_Costs_renumbered) := ⟨rfl, rfl, rfl, by decide +kernel, rfl, by decide +kernel, by decide +kernel⟩
theorem sc_Lmix : FnScope ["_law_number", "_law_turn", "_law_once", "_law_twice"] ["_law_number", "_law_turn"] (defScope s_Lmix) := ⟨rfl, rfl, rfl, by decide +kernel, rfl, by decide +kernel, by decide +kernel⟩
theorem sc_Lhand : FnScope ["_law_script", "_law_total", "_law_k", "_law_cell"] ["_law_script"] (defScope s_Lhand) := ⟨rfl, rfl, rfl, by decide +kernel, rfl, by decide +kernel, by decide +kernel⟩
theorem sc_Ldraw : FnScope ["_law_hand_here", "_law_many", "_law_cell", "_law_rest"] ["_law_hand_here", "_law_many"] (defScope s_Ldraw) := ⟨rfl, rfl, rfl, by decide +kernel, rfl, by decide +kernel, by decide +kernel⟩
theorem sc_Lwhole : FnScope ["_law_thing"] ["_law_thing"] (defScope s_Lwhole) := ⟨rfl, rfl, rfl, by decide +kernel, rfl, by decide +kernel, by decide +kernel⟩
theorem sc_Ldrawn : FnScope ["_law_hand_here", "_law_sides", "_law_ladder", "_law_most", "_law_lines", "_law_east", "_law_line", "_law_west", "_law_entry", "_law_end"] ["_law_hand_here"] (defScope s_Ldrawn) := ⟨rfl, rfl, rfl, by decide +kernel, rfl, by decide +kernel, by decide +kernel⟩
theorem sc_Ltuples : FnScope ["_law_lines", "_law_line", "_law_entry"] ["_law_lines"] (defScope s_Ltuples) := ⟨rfl, rfl, rfl, by decide +kernel, rfl, by decide +kernel, by decide +kernel⟩
theorem sc_Llists : FnScope ["_law_lines", "_law_line", "_law_entry"] ["_law_lines"] (defScope s_Llists) := ⟨rfl, rfl, rfl, by decide +kernel, rfl, by decide +kernel, by decide +kernel⟩
theorem sc_Ldue : FnScope ["_law_ladder", "_law_lines", "_law_line", "_law_entry", "_law_cost"] ["_law_ladder", "_law_lines"] (defScope s_Ldue) := ⟨rfl, rfl, rfl, by decide +kernel, rfl, by decide +kernel, by decide +kernel⟩
theorem sc_Lmade : FnScope ["_law_ladder", "_law_lines", "e"] ["_law_ladder", "_law_lines"] (defScope s_Lmade) := ⟨rfl, rfl, rfl, by decide +kernel, rfl, by decide +kernel, by decide +kernel⟩
theorem sc_Lspoil_entry : FnScope ["_law_hand_here", "_law_entry", "_law_way", "_law_at", "_law_odd"] ["_law_hand_here", "_law_entry"] (defScope s_Lspoil_entry) := ⟨rfl, rfl, rfl, by decide +kernel, rfl, by decide +kernel, by decide +kernel⟩
theorem sc_Lspoil_lines : FnScope ["_law_hand_here", "_law_lines", "_law_kept", "_law_way", "_law_east", "_law_west", "_law_line"] ["_law_hand_here", "_law_lines"] (defScope s_Lspoil_lines) := ⟨rfl, rfl, rfl, by decide +kernel, rfl, by decide +kernel, by decide +kernel⟩
theorem sc_Lrefused : FnScope ["_law_hand_here", "_law_ladder", "_law_lines", "_law_turn", "_law_spoilt", "_law_odd"] ["_law_hand_here", "_law_ladder", "_law_lines"] (defScope s_Lrefused) := ⟨rfl, rfl, rfl, by decide +kernel, rfl, by decide +kernel, by decide +kernel⟩
theorem sc_Lcut : FnScope ["_law_costs", "_law_ladder", "_law_back", "e"] ["_law_costs", "_law_ladder"] (defScope s_Lcut) := ⟨rfl, rfl, rfl, by decide +kernel, rfl, by decide +kernel, by decide +kernel⟩
theorem sc_Ladded : FnScope ["_law_costs", "_law_amount", "_law_back", "e"] ["_law_costs", "_law_amount"] (defScope s_Ladded) := ⟨rfl, rfl, rfl, by decide +kernel, rfl, by decide +kernel, by decide +kernel⟩
theorem sc_Ladded_due : FnScope ["_law_ladder", "_law_lines", "_law_amount", "_law_more", "_law_line", "_law_entry", "_law_cost"] ["_law_ladder", "_law_lines", "_law_amount"] (defScope s_Ladded_due) := ⟨rfl, rfl, rfl, by decide +kernel, rfl, by decide +kernel, by decide +kernel⟩
theorem sc_Lorder : FnScope ["_law_hand_here", "_law_many", "_law_rest", "_law_order_here", "_law_turn"] ["_law_hand_here", "_law_many"] (defScope s_Lorder) := ⟨rfl, rfl, rfl, by decide +kernel, rfl, by decide +kernel, by decide +kernel⟩
theorem sc_Lis_order : FnScope ["_law_order_here", "_law_many", "_law_kind"] ["_law_order_here", "_law_many"] (defScope s_Lis_order) := ⟨rfl, rfl, rfl, by decide +kernel, rfl, by decide +kernel, by decide +kernel⟩
theorem sc_Lrenumbered : FnScope ["_law_costs", "_law_side", "_law_order_here", "e"] ["_law_costs", "_law_side", "_law_order_here"] (defScope s_Lrenumbered) := ⟨rfl, rfl, rfl, by decide +kernel, rfl, by decide +kernel, by decide +kernel⟩
theorem sc_Lrenumbered_due : FnScope ["_law_lines", "_law_side", "_law_order_here", "_law_turned_here", "_law_line", "_law_kind"] ["_law_lines", "_law_side", "_law_order_here"] (defScope s_Lrenumbered_due) := ⟨rfl, rfl, rfl, by decide +kernel, rfl, by decide +kernel, by decide +kernel⟩
theorem sc_Lturned : FnScope ["_law_hand_here", "_law_costs", "_law_ladder", "_law_lines", "_law_turn", "_law_lower", "_law_due_here", "_law_odd", "_law_amount", "_law_drawn_here", "_law_side", "_law_order_here", "_law_asked", "_law_line", "_law_entry"] ["_law_hand_here", "_law_costs", "_law_ladder", "_law_lines"] (defScope s_Lturned) := ⟨rfl, rfl, rfl, by decide +kernel, rfl, by decide +kernel, by decide +kernel⟩
theorem sc_Lcase : FnScope ["_law_hand_here", "_law_sides", "_law_ladder", "_law_lines", "_law_handed", "_law_costs", "_law_due_here", "_law_told", "_law_east", "_law_west", "_law_end", "_law_other"] ["_law_hand_here"] (defScope s_Lcase) := ⟨rfl, rfl, rfl, by decide +kernel, rfl, by decide +kernel, by decide +kernel⟩
theorem sc_law : FnScope ["_law_script"] ["_law_script"] (defScope s_law) := ⟨rfl, rfl, rfl, by decide +kernel, rfl, by decide +kernel, by decide +kernel⟩
structure Tx where
  f_BadLotu_initu : Addr
  d_BadLotu_initu : FuncData
  f_BadCostsu_initu : Addr
  d_BadCostsu_initu : FuncData
  f_is_whole : Addr
  d_is_whole : FuncData
  f_is_sequence : Addr
  d_is_sequence : FuncData
  f_check_side : Addr
  d_check_side : FuncData
  f_are_sides : Addr
  d_are_sides : FuncData
  f_are_kinds : Addr
  d_are_kinds : FuncData
  f_is_order : Addr
  d_is_order : FuncData
  f_check_side_order : Addr
  d_check_side_order : FuncData
  f_sides_of_lines : Addr
  d_sides_of_lines : FuncData
  f_renumbered_lines : Addr
  d_renumbered_lines : FuncData
  f_is_entry : Addr
  d_is_entry : FuncData
  f_Costsu_initu : Addr
  d_Costsu_initu : FuncData
  f_Costsu_equ : Addr
  d_Costsu_equ : FuncData
  f_Costs_cut : Addr
  d_Costs_cut : FuncData
  f_Costs_added : Addr
  d_Costs_added : FuncData
  f_Costs_renumbered : Addr
  d_Costs_renumbered : FuncData
  f_Lmix : Addr
  d_Lmix : FuncData
  f_Lhand : Addr
  d_Lhand : FuncData
  f_Ldraw : Addr
  d_Ldraw : FuncData
  f_Lwhole : Addr
  d_Lwhole : FuncData
  f_Ldrawn : Addr
  d_Ldrawn : FuncData
  f_Ltuples : Addr
  d_Ltuples : FuncData
  f_Llists : Addr
  d_Llists : FuncData
  f_Ldue : Addr
  d_Ldue : FuncData
  f_Lmade : Addr
  d_Lmade : FuncData
  f_Lspoil_entry : Addr
  d_Lspoil_entry : FuncData
  f_Lspoil_lines : Addr
  d_Lspoil_lines : FuncData
  f_Lrefused : Addr
  d_Lrefused : FuncData
  f_Lcut : Addr
  d_Lcut : FuncData
  f_Ladded : Addr
  d_Ladded : FuncData
  f_Ladded_due : Addr
  d_Ladded_due : FuncData
  f_Lorder : Addr
  d_Lorder : FuncData
  f_Lis_order : Addr
  d_Lis_order : FuncData
  f_Lrenumbered : Addr
  d_Lrenumbered : FuncData
  f_Lrenumbered_due : Addr
  d_Lrenumbered_due : FuncData
  f_Lturned : Addr
  d_Lturned : FuncData
  f_Lcase : Addr
  d_Lcase : FuncData
  f_law : Addr
  d_law : FuncData
  C_CallError : Addr
  C_BadLot : Addr
  C_BadSide : Addr
  C_BadCosts : Addr
  C_Costs : Addr
  t_EAST : Tok
  t_WEST : Tok
  t_LADDER_MOST : Tok
  t_KINDS_MOST : Tok
  t_COUPLES_MOST : Tok
  t_COST_MOST : Tok
  e1_is_whole : List Value
  e2_is_whole : List Value
structure Ok (K : PySem.W.Frag) (mg : Str → Option Value) (T : Tx) : Prop where
  F_BadLotu_initu : Fun K "__init__" "BadLot.__init__" s_BadLotu_initu T.f_BadLotu_initu T.d_BadLotu_initu
  b_BadLotu_initu : Binds K T.d_BadLotu_initu ["self", "side"] []
  F_BadCostsu_initu : Fun K "__init__" "BadCosts.__init__" s_BadCostsu_initu T.f_BadCostsu_initu T.d_BadCostsu_initu
  b_BadCostsu_initu : Binds K T.d_BadCostsu_initu ["self", "what"] []
  F_is_whole : FunD K "is_whole" "is_whole" (defArgs s_is_whole) (defBody s_is_whole) (defScope s_is_whole) [.non, .non] [] T.f_is_whole T.d_is_whole
  m_is_whole : mg "is_whole" = some (.ref T.f_is_whole)
  b_is_whole : Binds K T.d_is_whole ["thing", "low", "high"] []
  b1_is_whole : Vals [.non] T.e1_is_whole ∧ Binds K T.d_is_whole ["thing", "low", "high"] T.e1_is_whole
  b2_is_whole : Vals [.non, .non] T.e2_is_whole ∧ Binds K T.d_is_whole ["thing", "low", "high"] T.e2_is_whole
  F_is_sequence : Fun K "is_sequence" "is_sequence" s_is_sequence T.f_is_sequence T.d_is_sequence
  m_is_sequence : mg "is_sequence" = some (.ref T.f_is_sequence)
  b_is_sequence : Binds K T.d_is_sequence ["thing"] []
  F_check_side : Fun K "check_side" "check_side" s_check_side T.f_check_side T.d_check_side
  m_check_side : mg "check_side" = some (.ref T.f_check_side)
  b_check_side : Binds K T.d_check_side ["side"] []
  F_are_sides : Fun K "are_sides" "are_sides" s_are_sides T.f_are_sides T.d_are_sides
  m_are_sides : mg "are_sides" = some (.ref T.f_are_sides)
  b_are_sides : Binds K T.d_are_sides ["thing"] []
  F_are_kinds : Fun K "are_kinds" "are_kinds" s_are_kinds T.f_are_kinds T.d_are_kinds
  m_are_kinds : mg "are_kinds" = some (.ref T.f_are_kinds)
  b_are_kinds : Binds K T.d_are_kinds ["thing", "kinds"] []
  F_is_order : Fun K "is_order" "is_order" s_is_order T.f_is_order T.d_is_order
  m_is_order : mg "is_order" = some (.ref T.f_is_order)
  b_is_order : Binds K T.d_is_order ["thing", "many"] []
  F_check_side_order : Fun K "check_side_order" "check_side_order" s_check_side_order T.f_check_side_order T.d_check_side_order
  m_check_side_order : mg "check_side_order" = some (.ref T.f_check_side_order)
  b_check_side_order : Binds K T.d_check_side_order ["order", "kinds", "side"] []
  F_sides_of_lines : Fun K "sides_of_lines" "sides_of_lines" s_sides_of_lines T.f_sides_of_lines T.d_sides_of_lines
  m_sides_of_lines : mg "sides_of_lines" = some (.ref T.f_sides_of_lines)
  b_sides_of_lines : Binds K T.d_sides_of_lines ["lines"] []
  F_renumbered_lines : Fun K "renumbered_lines" "renumbered_lines" s_renumbered_lines T.f_renumbered_lines T.d_renumbered_lines
  m_renumbered_lines : mg "renumbered_lines" = some (.ref T.f_renumbered_lines)
  b_renumbered_lines : Binds K T.d_renumbered_lines ["lines", "side", "order"] []
  F_is_entry : Fun K "is_entry" "is_entry" s_is_entry T.f_is_entry T.d_is_entry
  m_is_entry : mg "is_entry" = some (.ref T.f_is_entry)
  b_is_entry : Binds K T.d_is_entry ["thing", "ladder"] []
  F_Costsu_initu : Fun K "__init__" "Costs.__init__" s_Costsu_initu T.f_Costsu_initu T.d_Costsu_initu
  b_Costsu_initu : Binds K T.d_Costsu_initu ["self", "ladder", "lines"] []
  F_Costsu_equ : Fun K "__eq__" "Costs.__eq__" s_Costsu_equ T.f_Costsu_equ T.d_Costsu_equ
  b_Costsu_equ : Binds K T.d_Costsu_equ ["self", "other"] []
  F_Costs_cut : Fun K "cut" "Costs.cut" s_Costs_cut T.f_Costs_cut T.d_Costs_cut
  b_Costs_cut : Binds K T.d_Costs_cut ["self", "ladder"] []
  F_Costs_added : Fun K "added" "Costs.added" s_Costs_added T.f_Costs_added T.d_Costs_added
  b_Costs_added : Binds K T.d_Costs_added ["self", "amount"] []
  F_Costs_renumbered : Fun K "renumbered" "Costs.renumbered" s_Costs_renumbered T.f_Costs_renumbered T.d_Costs_renumbered
  b_Costs_renumbered : Binds K T.d_Costs_renumbered ["self", "side", "order"] []
  F_Lmix : Fun K "_law_mix" "_law_mix" s_Lmix T.f_Lmix T.d_Lmix
  m_Lmix : mg "_law_mix" = some (.ref T.f_Lmix)
  b_Lmix : Binds K T.d_Lmix ["_law_number", "_law_turn"] []
  F_Lhand : Fun K "_law_hand" "_law_hand" s_Lhand T.f_Lhand T.d_Lhand
  m_Lhand : mg "_law_hand" = some (.ref T.f_Lhand)
  b_Lhand : Binds K T.d_Lhand ["_law_script"] []
  F_Ldraw : Fun K "_law_draw" "_law_draw" s_Ldraw T.f_Ldraw T.d_Ldraw
  m_Ldraw : mg "_law_draw" = some (.ref T.f_Ldraw)
  b_Ldraw : Binds K T.d_Ldraw ["_law_hand_here", "_law_many"] []
  F_Lwhole : Fun K "_law_whole" "_law_whole" s_Lwhole T.f_Lwhole T.d_Lwhole
  m_Lwhole : mg "_law_whole" = some (.ref T.f_Lwhole)
  b_Lwhole : Binds K T.d_Lwhole ["_law_thing"] []
  F_Ldrawn : Fun K "_law_drawn" "_law_drawn" s_Ldrawn T.f_Ldrawn T.d_Ldrawn
  m_Ldrawn : mg "_law_drawn" = some (.ref T.f_Ldrawn)
  b_Ldrawn : Binds K T.d_Ldrawn ["_law_hand_here"] []
  F_Ltuples : Fun K "_law_tuples" "_law_tuples" s_Ltuples T.f_Ltuples T.d_Ltuples
  m_Ltuples : mg "_law_tuples" = some (.ref T.f_Ltuples)
  b_Ltuples : Binds K T.d_Ltuples ["_law_lines"] []
  F_Llists : Fun K "_law_lists" "_law_lists" s_Llists T.f_Llists T.d_Llists
  m_Llists : mg "_law_lists" = some (.ref T.f_Llists)
  b_Llists : Binds K T.d_Llists ["_law_lines"] []
  F_Ldue : Fun K "_law_due" "_law_due" s_Ldue T.f_Ldue T.d_Ldue
  m_Ldue : mg "_law_due" = some (.ref T.f_Ldue)
  b_Ldue : Binds K T.d_Ldue ["_law_ladder", "_law_lines"] []
  F_Lmade : Fun K "_law_made" "_law_made" s_Lmade T.f_Lmade T.d_Lmade
  m_Lmade : mg "_law_made" = some (.ref T.f_Lmade)
  b_Lmade : Binds K T.d_Lmade ["_law_ladder", "_law_lines"] []
  F_Lspoil_entry : Fun K "_law_spoil_entry" "_law_spoil_entry" s_Lspoil_entry T.f_Lspoil_entry T.d_Lspoil_entry
  m_Lspoil_entry : mg "_law_spoil_entry" = some (.ref T.f_Lspoil_entry)
  b_Lspoil_entry : Binds K T.d_Lspoil_entry ["_law_hand_here", "_law_entry"] []
  F_Lspoil_lines : Fun K "_law_spoil_lines" "_law_spoil_lines" s_Lspoil_lines T.f_Lspoil_lines T.d_Lspoil_lines
  m_Lspoil_lines : mg "_law_spoil_lines" = some (.ref T.f_Lspoil_lines)
  b_Lspoil_lines : Binds K T.d_Lspoil_lines ["_law_hand_here", "_law_lines"] []
  F_Lrefused : Fun K "_law_refused" "_law_refused" s_Lrefused T.f_Lrefused T.d_Lrefused
  m_Lrefused : mg "_law_refused" = some (.ref T.f_Lrefused)
  b_Lrefused : Binds K T.d_Lrefused ["_law_hand_here", "_law_ladder", "_law_lines"] []
  F_Lcut : Fun K "_law_cut" "_law_cut" s_Lcut T.f_Lcut T.d_Lcut
  m_Lcut : mg "_law_cut" = some (.ref T.f_Lcut)
  b_Lcut : Binds K T.d_Lcut ["_law_costs", "_law_ladder"] []
  F_Ladded : Fun K "_law_added" "_law_added" s_Ladded T.f_Ladded T.d_Ladded
  m_Ladded : mg "_law_added" = some (.ref T.f_Ladded)
  b_Ladded : Binds K T.d_Ladded ["_law_costs", "_law_amount"] []
  F_Ladded_due : Fun K "_law_added_due" "_law_added_due" s_Ladded_due T.f_Ladded_due T.d_Ladded_due
  m_Ladded_due : mg "_law_added_due" = some (.ref T.f_Ladded_due)
  b_Ladded_due : Binds K T.d_Ladded_due ["_law_ladder", "_law_lines", "_law_amount"] []
  F_Lorder : Fun K "_law_order" "_law_order" s_Lorder T.f_Lorder T.d_Lorder
  m_Lorder : mg "_law_order" = some (.ref T.f_Lorder)
  b_Lorder : Binds K T.d_Lorder ["_law_hand_here", "_law_many"] []
  F_Lis_order : Fun K "_law_is_order" "_law_is_order" s_Lis_order T.f_Lis_order T.d_Lis_order
  m_Lis_order : mg "_law_is_order" = some (.ref T.f_Lis_order)
  b_Lis_order : Binds K T.d_Lis_order ["_law_order_here", "_law_many"] []
  F_Lrenumbered : Fun K "_law_renumbered" "_law_renumbered" s_Lrenumbered T.f_Lrenumbered T.d_Lrenumbered
  m_Lrenumbered : mg "_law_renumbered" = some (.ref T.f_Lrenumbered)
  b_Lrenumbered : Binds K T.d_Lrenumbered ["_law_costs", "_law_side", "_law_order_here"] []
  F_Lrenumbered_due : Fun K "_law_renumbered_due" "_law_renumbered_due" s_Lrenumbered_due T.f_Lrenumbered_due T.d_Lrenumbered_due
  m_Lrenumbered_due : mg "_law_renumbered_due" = some (.ref T.f_Lrenumbered_due)
  b_Lrenumbered_due : Binds K T.d_Lrenumbered_due ["_law_lines", "_law_side", "_law_order_here"] []
  F_Lturned : Fun K "_law_turned" "_law_turned" s_Lturned T.f_Lturned T.d_Lturned
  m_Lturned : mg "_law_turned" = some (.ref T.f_Lturned)
  b_Lturned : Binds K T.d_Lturned ["_law_hand_here", "_law_costs", "_law_ladder", "_law_lines"] []
  F_Lcase : Fun K "_law_case" "_law_case" s_Lcase T.f_Lcase T.d_Lcase
  m_Lcase : mg "_law_case" = some (.ref T.f_Lcase)
  b_Lcase : Binds K T.d_Lcase ["_law_hand_here"] []
  F_law : Fun K "law" "law" s_law T.f_law T.d_law
  m_law : mg "law" = some (.ref T.f_law)
  b_law : Binds K T.d_law ["_law_script"] []
  m_CallError : mg "CallError" = some (.ref T.C_CallError)
  e_CallError : Jv.ExcP K T.C_CallError
  m_BadLot : mg "BadLot" = some (.ref T.C_BadLot)
  x_BadLot : Jv.ExcI K T.C_BadLot T.f_BadLotu_initu
  m_BadSide : mg "BadSide" = some (.ref T.C_BadSide)
  e_BadSide : Jv.ExcP K T.C_BadSide
  m_BadCosts : mg "BadCosts" = some (.ref T.C_BadCosts)
  x_BadCosts : Jv.ExcI K T.C_BadCosts T.f_BadCostsu_initu
  m_Costs : mg "Costs" = some (.ref T.C_Costs)
  o_Costs : Cls K T.C_Costs
  k_Costs : Mk K T.C_Costs T.f_Costsu_initu
  h_Costsu_equ : Meth K T.C_Costs "__eq__" T.f_Costsu_equ
  h_Costs_cut : Meth K T.C_Costs "cut" T.f_Costs_cut
  h_Costs_added : Meth K T.C_Costs "added" T.f_Costs_added
  h_Costs_renumbered : Meth K T.C_Costs "renumbered" T.f_Costs_renumbered
  i_Costs_ca : PySem.W.findIn K (.ref T.C_Costs) "__class__" = some (some (.builtin "object.__class__"))
  i_Costs_cn : PySem.W.specialIn K (.builtin "object.__class__") "__get__" = some (some (.builtin "getset_descriptor.__get__"))
  i_Costs_ct : PySem.W.takesIn K (.builtin "object.__class__") = some true
  i_Costs_cm : PySem.W.mroIn K T.C_Costs (.type "object") = some true
  i_Costs_kt : PySem.W.kitOne K (.type "tuple") (.ref T.C_Costs) = some false
  i_Costs_nt : PySem.W.notFirst K T.C_Costs (.type "tuple") = true
  i_Costs_ne : PySem.W.findIn K (.ref T.C_Costs) "__ne__" = some (some (.builtin "object.__ne__"))
  n_Costs_ladder : NoAttr K T.C_Costs "ladder"
  n_Costs_lines : NoAttr K T.C_Costs "lines"
  n_Costs_sides : NoAttr K T.C_Costs "sides"
  z_ValueError : mg "ValueError" = none
  z_abs : mg "abs" = none
  z_all : mg "all" = none
  z_bool : mg "bool" = none
  z_enumerate : mg "enumerate" = none
  z_int : mg "int" = none
  z_isinstance : mg "isinstance" = none
  z_len : mg "len" = none
  z_list : mg "list" = none
  z_range : mg "range" = none
  z_sorted : mg "sorted" = none
  z_tuple : mg "tuple" = none
  c_EAST : mg "EAST" = some (.int (0) T.t_EAST)
  c_WEST : mg "WEST" = some (.int (1) T.t_WEST)
  c_LADDER_MOST : mg "LADDER_MOST" = some (.int (6) T.t_LADDER_MOST)
  c_KINDS_MOST : mg "KINDS_MOST" = some (.int (6) T.t_KINDS_MOST)
  c_COUPLES_MOST : mg "COUPLES_MOST" = some (.int (12) T.t_COUPLES_MOST)
  c_COST_MOST : mg "COST_MOST" = some (.int (1000000) T.t_COST_MOST)
  n_BadLot_side : PySem.W.findIn K (.ref T.C_BadLot) "side" = some none
  n_BadCosts_what : PySem.W.findIn K (.ref T.C_BadCosts) "what" = some none
  u_BadLot_BadSide : PySem.W.subIn K (.ref T.C_BadLot) (.ref T.C_BadSide) = some false
end K49

namespace K49
open PySem PySem.Spec PyProof.Rows L2
/-! ### the law's draws: any number below the bound may come -/
def sp_Lmix : Sp := fun vs H Q _ => ∃ n t : Int, vs = [.int n, .int t] ∧ (0 ≤ n ∧ n < 2147483648 ∧ 0 ≤ t ∧ t ≤ 1000) ∧ ∀ r : Int, 0 ≤ r → r < 134217728 → Q (.int r) H
theorem mix_end (z : Int) : 0 ≤ z % 2147483563 / 16 ∧ z % 2147483563 / 16 < 134217728 := by omega
section
variable {P : Program} {w : World} {K : PySem.W.Frag} {mg : Str → Option Value} {base : Heap}
theorem ok_Lmix (T : Tx) (O : Ok K mg T) : FnOk P w K mg base CX0 1 T.f_Lmix T.d_Lmix ["_law_number", "_law_turn"] sp_Lmix := by
  refine O.F_Lmix.ok sc_Lmix (fun vs H Q E h => by obtain ⟨n, t, rfl, _⟩ := h; rfl) (fun cdv A outer s H vs Q E hr h => ?_)
  obtain ⟨n, t, rfl, ⟨h1, h2, h3, h4⟩, q⟩ := h
  refine ⟨_, (pss_cons (ps_set (i := 2) sc_Lmix.nd rfl (Or.inl rfl) (pe_op op_mod (pe_callTy (r := Jv.rInt) Jv.cr_int (by rfl) O.z_int (by decide +kernel) (pa_cons (pe_op op_add (pe_op op_add (pe_op op_mul (pv 0) pe_int) (pe_op op_mul (pv 1) pe_int)) pe_int) pa_nil)) pe_int))
  (pss_cons (ps_set (i := 3) sc_Lmix.nd rfl (Or.inl rfl) (pe_op op_mod (pe_callTy (r := Jv.rInt) Jv.cr_int (by rfl) O.z_int (by decide +kernel) (pa_cons (pe_op op_add (pe_op op_add (pe_op op_mul (pv 2) (pv 2)) (pe_op op_mul (pe_op op_fdivW (pv 2) pe_int) pe_int)) (pe_op op_mul (pv 1) pe_int)) pa_nil)) pe_int))
  (pss_one (ps_ret (pe_op op_fdivW (pe_op op_mod (pe_callTy (r := Jv.rInt) Jv.cr_int (by rfl) O.z_int (by decide +kernel) (pa_cons (pe_op op_add (pe_op op_fdivW (pe_op op_mul (pv 3) (pv 3)) pe_int) (pv 2)) pa_nil)) pe_int) pe_int))))), ?_⟩
  walk_at "r"
  exact q _ (mix_end _).1 (mix_end _).2
end
end K49

namespace Jv
open PySem PySem.Spec PyProof.Rows L2
/-! ### the hand: numbers still to be used, a place, a rest, a total -/
structure HandAt (H : Hp) (p l : Addr) (ns : List Int) (k c t : Int) : Prop where
  hp : H p = some (.lst [.ref l, .int k, .int c, .int t])
  hl : H l = some (.lst (ns.map V.int))
  nn : ∀ n ∈ ns, 0 ≤ n
  few : ns.length ≤ 63
  bd : 0 ≤ k ∧ k ≤ ns.length ∧ 0 ≤ c ∧ 0 ≤ t ∧ t < 2147483629
def Hand (H : Hp) (p l : Addr) : Prop := ∃ ns k c t, HandAt H p l ns k c t
theorem HandAt.ne {H : Hp} {p l : Addr} {ns : List Int} {k c t : Int} (h : HandAt H p l ns k c t) : l ≠ p := fun e => by
  have q := h.hp
  rw [← e, h.hl] at q
  have q2 := HO.lst.inj (Option.some.inj q)
  cases ns with
  | nil => cases q2
  | cons a r => cases q2
/-- all but what stands at p is as it was -/
def Kp (p : Addr) (H H' : Hp) : Prop := ∀ b o, b ≠ p → H b = some o → H' b = some o
theorem Kp.refl {p : Addr} {H : Hp} : Kp p H H := fun _ _ _ e => e
theorem Kp.trans {p : Addr} {H H1 H2 : Hp} (a : Kp p H H1) (b : Kp p H1 H2) : Kp p H H2 := fun c o n e => b c o n (a c o n e)
theorem Kp.same {p : Addr} {H H' : Hp} (a : Same H H') : Kp p H H' := fun c o _ e => a c o e
theorem Kp.upd {p : Addr} {H : Hp} {o : HO} : Kp p H (upd H p o) := fun c u n e => by rw [upd_ne n]; exact e
theorem Kp.new {p q : Addr} {H : Hp} {o : HO} (n : H q = none) : Kp p H (L2.upd H q o) := Kp.same (same_new n)
theorem Hand.same {H H' : Hp} {p l : Addr} (h : Hand H p l) (s : Same H H') : Hand H' p l := by
  obtain ⟨ns, k, c, t, h⟩ := h
  exact ⟨ns, k, c, t, s _ _ h.hp, s _ _ h.hl, h.nn, h.few, h.bd⟩
theorem Hand.at {H : Hp} {p l : Addr} (h : Hand H p l) : ∃ o, H p = some o := by
  obtain ⟨ns, k, c, t, h⟩ := h
  exact ⟨_, h.hp⟩
theorem Hand.set {H : Hp} {p l : Addr} {ns : List Int} {k c t k' c' t' : Int} (h : HandAt H p l ns k c t) (b : 0 ≤ k' ∧ k' ≤ ns.length ∧ 0 ≤ c' ∧ 0 ≤ t' ∧ t' < 2147483629) :
    HandAt (upd H p (.lst [.ref l, .int k', .int c', .int t'])) p l ns k' c' t' :=
  ⟨upd_same, by rw [upd_ne h.ne]; exact h.hl, h.nn, h.few, b⟩
end Jv
namespace K49
open PySem PySem.Spec PyProof.Rows L2
def sp_Lhand (K : PySem.W.Frag) : Sp := fun vs H Q _ => ∃ (a : Addr) (ns : List Int), vs = [.ref a] ∧ SqL K H a (ns.map V.int) ∧ ns.length ≤ 63 ∧ ∀ p l H', Same H H' → H p = none → Jv.Hand H' p l → Q (.ref p) H'
section
variable {P : Program} {w : World} {K : PySem.W.Frag} {mg : Str → Option Value} {base : Heap}
theorem ok_Lhand (T : Tx) (O : Ok K mg T) : FnOk P w K mg base CX0 1 T.f_Lhand T.d_Lhand ["_law_script"] (sp_Lhand K) := by
  refine O.F_Lhand.ok sc_Lhand (fun vs H Q E h => by obtain ⟨a, ns, rfl, _⟩ := h; rfl) (fun cdv A outer s H vs Q E hr h => ?_)
  obtain ⟨a, ns, rfl, hS, few, q⟩ := h
  refine ⟨_, (pss_cons (ps_set (i := 1) sc_Lhand.nd rfl (Or.inl rfl) pe_int)
  (pss_cons (ps_for PassesOwn.never rfl (show PI _ _ _ (iEnum K _) from pi_enum (by rfl) O.z_enumerate (pa_cons (pv 0) pa_nil)) (pg_tup rfl (pgs_cons (pg_name (i := 2) sc_Lhand.nd rfl (Or.inl rfl)) (pgs_cons (pg_name (i := 3) sc_Lhand.nd rfl (Or.inl rfl)) pgs_nil))) (pss_one (ps_set (i := 1) sc_Lhand.nd rfl (Or.inl rfl) (pe_op op_mod (pe_callTy (r := Jv.rInt) Jv.cr_int (by rfl) O.z_int (by decide +kernel) (pa_cons (pe_op op_add (pe_op op_mul (pv 1) pe_int) (pe_op op_mul (pe_callTy (r := Jv.rInt) Jv.cr_int (by rfl) O.z_int (by decide +kernel) (pa_cons (pv 3) pa_nil)) (pe_op op_add (pv 2) pe_int))) pa_nil)) pe_int))))
  (pss_one (ps_ret (pe_lst (pa_cons (pe_lc (own := [("_law_cell", 3)]) (by rfl) sc_Lhand.nd (show PI _ _ _ (iList K _) from pi_list (pv 0)) (blkOk_by (own := [("_law_cell", 3)]) (N := ["_law_script", "_law_total", "_law_k", "_law_cell"]) (sc := defScope s_Lhand) (scope := ({ kind := .function, names := [(".0", .local), ("_law_cell", .local), ("abs", .globalImplicit), ("int", .globalImplicit)], isGenerator := false, isCoroutine := false } : Scope)) (by decide +kernel)) (fun _ _ _ _ _ => (pg_name (i := 3) sc_Lhand.nd rfl (Or.inl rfl))) (fun _ _ _ _ _ => pts_nil) (fun _ _ _ _ _ => (pe_callB (r := Jv.rAbs) Jv.cr_abs (by rfl) O.z_abs (by decide +kernel) (pa_cons (pe_callTy (r := Jv.rInt) Jv.cr_int (by rfl) O.z_int (by decide +kernel) (pa_cons (pv 3) pa_nil)) pa_nil)))) (pa_cons pe_int (pa_cons pe_int (pa_cons (pv 1) pa_nil))))))))), ?_⟩
  walk_at "r"
  refine ⟨_, _, rfl, hS, ?_⟩
  refine for_it (walk_enum (K := K) (a := a) (xs := ns.map V.int)) (fun i σ H' => ∃ y2 y3 tot, σ = [some (.ref a), some (.int tot), y2, y3] ∧ (0 ≤ tot ∧ tot < 2147483629) ∧ Same H H') ⟨_, _, 0, rfl, by decide, fun _ _ e => e⟩ (fun i σ H' _ ⟨_, _, _, _, _, sm⟩ => sm.seq hS) ?_ ?_
  · rintro i x σ H1 H2 hi ⟨y2, y3, tot, rfl, hb, sm⟩ ⟨p, x1, x2, rfl, hp, rfl, hx, hy⟩
    cases hx
    obtain ⟨z, hz, rfl⟩ := Jv.map_at (show (ns.map V.int)[i]? = some x2 from hy)
    rw [List.length_map] at hi
    walk_at "r"
    exact ⟨_, _, _, rfl, by omega, sm.trans (Jv.same_new hp)⟩
  · rintro σ H' ⟨y2, y3, tot, rfl, hb, sm⟩
    walk_at "r"
    refine ⟨_, rfl, _, rfl, ⟨_, sm.seq hS⟩, fun p hp => ?_⟩
    refine lc_it (walk_list (K := K) (a := a) (xs := ns.map V.int)) (fun i H1 => ∃ zs : List Int, Same H H1 ∧ H1 p = some (.lst (zs.map V.int)) ∧ zs.length = i ∧ ∀ z ∈ zs, 0 ≤ z) ⟨[], sm.trans (Jv.same_new hp), upd_same, rfl, by simp⟩ (fun i H1 _ ⟨_, s1, _⟩ => s1.seq hS) ?_ ?_
    · rintro i x H1 H2 hi ⟨zs, s1, e1, hl, nn⟩ ⟨rfl, hx⟩
      obtain ⟨z, hz, rfl⟩ := Jv.map_at hx
      rw [List.length_map] at hi
      walk_at "r"
      refine ⟨zs.map V.int, e1, ?_, zs ++ [if z < 0 then -z else z], ?_, ?_, ?_, ?_⟩
      · rw [List.length_map, hl]; exact Jv.small_lt (by omega)
      · intro b o e; exact Jv.kpO (s1 b o e) (ne_of_none (sm b o e) hp)
      · rw [upd_same, List.map_append]; rfl
      · rw [List.length_append, hl]; rfl
      · intro y hy
        rcases List.mem_append.mp hy with hy | hy
        · exact nn y hy
        · rw [List.mem_singleton.mp hy]; split <;> omega
    · rintro H1 ⟨zs, s1, e1, hl, nn⟩
      walk_at "r"
      intro p2 hp2
      rw [List.length_map] at hl
      exact q p2 p _ (s1.trans (Jv.same_new hp2)) (s1.free hp2) ⟨zs, 0, 0, tot, upd_same, Jv.kp e1 hp2, nn, by omega, by omega⟩
end
end K49

namespace K49
open PySem PySem.Spec PyProof.Rows L2
def sp_Ldraw : Sp := fun vs H Q _ => ∃ (p l : Addr) (m : Int), vs = [.ref p, .int m] ∧ Jv.Hand H p l ∧ (0 < m ∧ m.natAbs.log2 < 9000) ∧ ∀ r H', 0 ≤ r → r < m → Jv.Kp p H H' → Jv.Hand H' p l → Q (.int r) H'
section
variable {P : Program} {w : World} {K : PySem.W.Frag} {mg : Str → Option Value} {base : Heap}
theorem ok_Ldraw (T : Tx) (O : Ok K mg T) : FnOk P w K mg base CX0 2 T.f_Ldraw T.d_Ldraw ["_law_hand_here", "_law_many"] sp_Ldraw := by
  refine O.F_Ldraw.ok sc_Ldraw (fun vs H Q E h => by obtain ⟨_, _, _, rfl, _⟩ := h; rfl) (fun cdv A outer s H vs Q E hr h => ?_)
  obtain ⟨p, l, m, rfl, ⟨ns, k, c, t, hA⟩, ⟨m0, m1⟩, q⟩ := h
  obtain ⟨hp, hl, nn, few, b1, b2, b3, b4, b5⟩ := id hA
  have nlp := hA.ne
  have e0 : ∀ z : Int, 0 ≤ z % m := fun z => Int.emod_nonneg _ (by omega)
  have e1 : ∀ z : Int, z % m < m := fun z => Int.emod_lt_of_pos _ m0
  refine ⟨_, (C8.pss_cut (ps_if (PW.pt (pw_and (pt_cmpR op_eq (pe_ix (r := rIxL K) ix_list (pv 0) pe_int (fun _ _ => rfl)) pe_int (nomark _)) (pw_and1 (pt_cmpR op_lt (pe_ix (r := rIxL K) ix_list (pv 0) pe_int (fun _ _ => rfl)) (pe_callB (r := Jv.rLenK K) Jv.cr_len (by rfl) O.z_len (by decide +kernel) (pa_cons (pe_ix (r := rIxL K) ix_list (pv 0) pe_int (fun _ _ => rfl)) pa_nil)) (nomark _))))) (pss_cons (ps_set (i := 2) sc_Ldraw.nd rfl (Or.inl rfl) (pe_ix (r := rIxL K) ix_list (pe_ix (r := rIxL K) ix_list (pv 0) pe_int (fun _ _ => rfl)) (pe_ix (r := rIxL K) ix_list (pv 0) pe_int (fun _ _ => rfl)) (fun _ _ => rfl)))
  (pss_cons (ps_asg (pe_op op_add (pe_ix (r := rIxL K) ix_list (pv 0) pe_int (fun _ _ => rfl)) pe_int) (pg_sub (pv 0) pe_int set_list))
  (pss_cons (ps_if (pt_cmpR op_lt (pv 2) (pe_op op_pow pe_int pe_int) (nomark _)) (pss_one (ps_ret (pe_op op_mod (pe_callTy (r := Jv.rInt) Jv.cr_int (by rfl) O.z_int (by decide +kernel) (pa_cons (pe_call (ok_Lmix T O) (hr.mono (by decide)) (by rfl) O.m_Lmix O.F_Lmix.kp O.b_Lmix .nil pass0 (pa_cons (pe_op op_mod (pe_callTy (r := Jv.rInt) Jv.cr_int (by rfl) O.z_int (by decide +kernel) (pa_cons (pv 2) pa_nil)) pe_int) (pa_cons (pe_ix (r := rIxL K) ix_list (pv 0) pe_int (fun _ _ => rfl)) pa_nil))) pa_nil)) (pv 1)))) pss_nil)
  (pss_one (ps_asg (pv 2) (pg_sub (pv 0) pe_int set_list)))))) pss_nil)
  (pss_cons (ps_if (pt_cmpR op_gt (pe_ix (r := rIxL K) ix_list (pv 0) pe_int (fun _ _ => rfl)) pe_int (nomark _)) (pss_cons (ps_set (i := 3) sc_Ldraw.nd rfl (Or.inl rfl) (pe_ix (r := rIxL K) ix_list (pv 0) pe_int (fun _ _ => rfl)))
  (pss_cons (ps_asg (pe_op op_fdivW (pv 3) (pv 1)) (pg_sub (pv 0) pe_int set_list))
  (pss_one (ps_ret (pe_op op_mod (pe_callTy (r := Jv.rInt) Jv.cr_int (by rfl) O.z_int (by decide +kernel) (pa_cons (pv 3) pa_nil)) (pv 1)))))) pss_nil)
  (pss_cons (ps_asg (pe_op op_mod (pe_callTy (r := Jv.rInt) Jv.cr_int (by rfl) O.z_int (by decide +kernel) (pa_cons (pe_op op_add (pe_ix (r := rIxL K) ix_list (pv 0) pe_int (fun _ _ => rfl)) pe_int) pa_nil)) pe_int) (pg_sub (pv 0) pe_int set_list))
  (pss_one (ps_ret (pe_op op_mod (pe_callTy (r := Jv.rInt) Jv.cr_int (by rfl) O.z_int (by decide +kernel) (pa_cons (pe_call (ok_Lmix T O) (hr.mono (by decide)) (by rfl) O.m_Lmix O.F_Lmix.kp O.b_Lmix .nil pass0 (pa_cons (pe_ix (r := rIxL K) ix_list (pv 0) pe_int (fun _ _ => rfl)) (pa_cons (pe_ix (r := rIxL K) ix_list (pv 0) pe_int (fun _ _ => rfl)) pa_nil))) pa_nil)) (pv 1))))))), ?_⟩
  refine ⟨fun σ' H' => ∃ k c t y2 y3, σ' = [some (.ref p), some (.int m), y2, y3] ∧ Jv.HandAt H' p l ns k c t ∧ Jv.Kp p H H', ?_, ?_⟩
  · walk_at "r"
    refine Jv.r_decI (fun hc => ?_) (fun hc => ?_)
    · walk_at "r"
      refine Jv.r_dec (fun hk => ?_) (fun hk => ?_)
      · rw [List.length_map] at hk
        have hk2 : k.toNat < ns.length := by omega
        have at1 : atI (ns.map V.int) k = some (.int ns[k.toNat]) := Jv.at_i b1 (Jv.map_get hk2)
        have n0 := nn ns[k.toNat] (List.getElem_mem _)
        generalize ns[k.toNat] = z at at1 n0
        walk_at "r"
        refine' Jv.r_ixL ?hs at1 ?_
        case hs => walk_at "sq"
        walk_at "r"
        refine Jv.r_dec (fun hz => ?_) (fun hz => ?_)
        · walk_at "r"
          refine ⟨_, _, rfl, ⟨by omega, by omega, by omega, by omega⟩, fun r h1 h2 => ?_⟩
          walk_at "r"
          exact q _ _ (e0 _) (e1 _) Jv.Kp.upd ⟨_, _, _, _, Jv.Hand.set hA ⟨by omega, by omega, b3, b4, b5⟩⟩
        · walk_at "r"
          exact ⟨k + 1, z, t, _, _, rfl, Jv.Hand.set (Jv.Hand.set hA ⟨by omega, by omega, b3, b4, b5⟩) ⟨by omega, by omega, n0, b4, b5⟩, Jv.Kp.upd.trans Jv.Kp.upd⟩
      · walk_at "r"
        exact ⟨k, c, t, _, _, rfl, hA, Jv.Kp.refl⟩
    · walk_at "r"
      exact ⟨k, c, t, _, _, rfl, hA, Jv.Kp.refl⟩
  · rintro σ' H' ⟨k, c, t, y2, y3, rfl, hB, kp⟩
    obtain ⟨hp, hl, nn, few, b1, b2, b3, b4, b5⟩ := id hB
    walk_at "r"
    refine Jv.r_dec (fun hc => ?_) (fun hc => ?_)
    · walk_at "r"
      refine q _ _ (e0 _) (e1 _) (kp.trans Jv.Kp.upd) ⟨_, _, _, _, Jv.Hand.set hB ⟨b1, b2, Int.ediv_nonneg b3 (by omega), b4, b5⟩⟩
    · walk_at "r"
      refine ⟨_, _, rfl, ⟨by omega, by omega, b1, by omega⟩, fun r h1 h2 => ?_⟩
      walk_at "r"
      exact q _ _ (e0 _) (e1 _) (kp.trans Jv.Kp.upd) ⟨_, _, _, _, Jv.Hand.set hB ⟨b1, b2, b3, by omega, by omega⟩⟩
end
end K49

namespace K49
open PySem PySem.Spec PyProof.Rows L2
/-! ### basics, of data -/
def sp_is_whole (K : PySem.W.Frag) : Sp := fun vs H Q _ => ∃ x d lo hi, vs = [x, lo, hi] ∧ Jv.Dv K H x d ∧ Jv.Bd lo ∧ Jv.Bd hi ∧ Q (.bl (Jv.wholeV x lo hi)) H
def sp_is_sequence (K : PySem.W.Frag) : Sp := fun vs H Q _ => ∃ x d, vs = [x] ∧ Jv.Dv K H x d ∧ ∀ H', Same H H' → Q (.bl (Jv.seqD d).isSome) H'
def sp_is_truth (K : PySem.W.Frag) : Sp := fun vs H Q _ => ∃ x d, vs = [x] ∧ Jv.Dv K H x d ∧ Q (.bl (Jv.boolD d)) H
def sp_are_sides (K : PySem.W.Frag) : Sp := fun vs H Q _ => ∃ x d, vs = [x] ∧ Jv.Dv K H x d ∧ ∀ H', Same H H' → Q (.bl (Jv.sidesD d)) H'
def sp_are_ends (K : PySem.W.Frag) : Sp := fun vs H Q _ => ∃ x d l, vs = [x, .int l] ∧ Jv.Dv K H x d ∧ Jv.few1 d ∧ ∀ H', Same H H' → Q (.bl (Jv.endsD l d)) H'
def sp_is_knowing (K : PySem.W.Frag) : Sp := fun vs H Q _ => ∃ x d, vs = [x] ∧ Jv.Dv K H x d ∧ ∀ H', Same H H' → Q (.bl (Jv.knowsD d)) H'
section
variable {P : Program} {w : World} {K : PySem.W.Frag} {mg : Str → Option Value} {base : Heap}
theorem ok_is_whole (T : Tx) (O : Ok K mg T) : FnOk P w K mg base CX0 1 T.f_is_whole T.d_is_whole ["thing", "low", "high"] (sp_is_whole K) := by
  refine O.F_is_whole.ok sc_is_whole (fun vs H Q E h => by obtain ⟨_, _, _, _, rfl, _⟩ := h; rfl) (fun cdv A outer s H vs Q E hr h => ?_)
  obtain ⟨x, d, lo, hi, rfl, hx, hlo, hhi, q⟩ := h
  refine ⟨_, (pss_cons (ps_if (PW.pt (pw_or (pt_val (pe_callB (r := rIsi K) call_isi (by rfl) O.z_isinstance (by decide +kernel) (pa_cons (pv 0) (pa_cons (pe_bltn (v := .ty "bool") (by rfl) O.z_bool (by decide +kernel) rfl) pa_nil)))) (pw_or1 (pt_not (pt_val (pe_callB (r := rIsi K) call_isi (by rfl) O.z_isinstance (by decide +kernel) (pa_cons (pv 0) (pa_cons (pe_bltn (v := .ty "int") (by rfl) O.z_int (by decide +kernel) rfl) pa_nil)))))))) (pss_one (ps_ret pe_bl)) pss_nil)
  (pss_cons (ps_if (PW.pt (pw_and (pt_cmpR op_notN (pv 1) pe_non (nomark _)) (pw_and1 (pt_cmpR op_lt (pv 0) (pv 1) (nomark _))))) (pss_one (ps_ret pe_bl)) pss_nil)
  (pss_one (ps_ret (pe_or (pe_cmpR op_isN (pv 2) pe_non (nomark _)) (pe_one (pe_cmpR op_le (pv 0) (pv 2) (nomark _)))))))), ?_⟩
  walk_at "r"
  have hx2 := hx
  cases hx2 with
  | int i =>
    rcases hlo with rfl | ⟨a, rfl⟩
    · rcases hhi with rfl | ⟨b, rfl⟩ <;> walk_at "r" <;> exact q
    · by_cases h : i < a
      · rw [Jv.wholeV_lo0 h] at q
        walk_at "rr" <;> exact q
      · rw [Jv.wholeV_lo1 h] at q
        rcases hhi with rfl | ⟨b, rfl⟩ <;> walk_at "rr" <;> exact q
  | _ => walk_at "r"; exact q
theorem ok_is_sequence (T : Tx) (O : Ok K mg T) : FnOk P w K mg base CX0 1 T.f_is_sequence T.d_is_sequence ["thing"] (sp_is_sequence K) := by
  refine O.F_is_sequence.ok sc_is_sequence (fun vs H Q E h => by obtain ⟨_, _, rfl, _⟩ := h; rfl) (fun cdv A outer s H vs Q E hr h => ?_)
  obtain ⟨x, d, rfl, hx, q⟩ := h
  refine ⟨_, (pss_one (ps_ret (pe_callB (r := rIsiT K) call_isiT (by rfl) O.z_isinstance (by decide +kernel) (pa_cons (pv 0) (pa_cons (pe_tup (pa_cons (pe_bltn (v := .ty "list") (by rfl) O.z_list (by decide +kernel) rfl) (pa_cons (pe_bltn (v := .ty "tuple") (by rfl) O.z_tuple (by decide +kernel) rfl) pa_nil))) pa_nil))))), ?_⟩
  walk_at "r"
  intro p hp
  have hx2 := hx.same (Jv.same_new (u := .tup [.ty "list", .ty "tuple"]) hp)
  walk_at "r"
  exact q _ (Jv.same_new hp)
theorem ok_are_sides (T : Tx) (O : Ok K mg T) : FnOk P w K mg base CX0 2 T.f_are_sides T.d_are_sides ["thing"] (sp_are_sides K) := by
  refine O.F_are_sides.ok sc_are_sides (fun vs H Q E h => by obtain ⟨_, _, rfl, _⟩ := h; rfl) (fun cdv A outer s H vs Q E hr h => ?_)
  obtain ⟨x, d, rfl, hx, q⟩ := h
  refine ⟨_, (pss_cons (ps_if (PW.pt (pw_or (pt_not (pt_val (pe_call (ok_is_sequence T O) (hr.mono (by decide)) (by rfl) O.m_is_sequence O.F_is_sequence.kp O.b_is_sequence .nil pass0 (pa_cons (pv 0) pa_nil)))) (pw_or1 (pt_cmpR op_ne (pe_callB (r := Jv.rLenK K) Jv.cr_len (by rfl) O.z_len (by decide +kernel) (pa_cons (pv 0) pa_nil)) pe_int (nomark _))))) (pss_one (ps_ret pe_bl)) pss_nil)
  (pss_cons (ps_if (pt_not (pt_val (pe_callB (r := rAll K) (cr_all rfl) (by rfl) O.z_all (by decide +kernel) (pa_cons (pe_lc (own := [("kinds", 1)]) (by rfl) sc_are_sides.nd (Jv.piOr (show PI _ _ _ (iList K _) from pi_list (pv 0)) (show PI _ _ _ (iTup K _) from pi_tup (pv 0))) (blkOk_by (own := [("kinds", 1)]) (N := ["thing", "kinds"]) (sc := defScope s_are_sides) (scope := ({ kind := .function, names := [(".0", .local), ("kinds", .local), ("is_whole", .globalImplicit), ("KINDS_MOST", .globalImplicit)], isGenerator := false, isCoroutine := false } : Scope)) (by decide +kernel)) (fun _ _ _ _ _ => (pg_name (i := 1) sc_are_sides.nd rfl (Or.inl rfl))) (fun _ _ _ _ _ => pts_nil) (fun _ _ _ _ _ => (pe_call (ok_is_whole T O) (hr.mono (by decide)) (by rfl) O.m_is_whole O.F_is_whole.kp O.b_is_whole .nil pass0 (pa_cons (pv 1) (pa_cons pe_int (pa_cons (pe_glob (v := .int (6)) (by rfl) O.c_KINDS_MOST ⟨_, rfl⟩) pa_nil)))))) pa_nil)))) (pss_one (ps_ret pe_bl)) pss_nil)
  (pss_one (ps_ret (pe_cmpR op_le (pe_op op_mul (pe_ix (r := rIx K) ix_seq (pv 0) (pe_glob (v := .int (0)) (by rfl) O.c_EAST ⟨_, rfl⟩) (fun _ _ => rfl)) (pe_ix (r := rIx K) ix_seq (pv 0) (pe_glob (v := .int (1)) (by rfl) O.c_WEST ⟨_, rfl⟩) (fun _ _ => rfl))) (pe_glob (v := .int (12)) (by rfl) O.c_COUPLES_MOST ⟨_, rfl⟩) (nomark _)))))), ?_⟩
  walk_at "r"
  refine ⟨_, _, rfl, hx, fun H1 s1 => ?_⟩
  walk_at "r"
  cases e : Jv.seqD d with
  | none =>
    have e2 : Jv.sidesD d = false := by unfold Jv.sidesD; rw [e]
    rw [e2] at q
    walk_at "r"; exact q _ s1
  | some ds =>
    obtain ⟨xs, sq0, al⟩ := hx.sk e
    have sq := sq0.same s1
    have al1 := al.same s1
    walk_at "r"
    refine sq.len ?_
    walk_at "r"
    refine Jv.r_ndecI (fun hl => ?_) (fun hl => ?_)
    · have e2 : Jv.sidesD d = false := by
        unfold Jv.sidesD; rw [e]
        split
        · rename_i p q e3; cases e3; rw [al.len] at hl; exact absurd rfl hl
        · rfl
      rw [e2] at q
      walk_at "r"; exact q _ s1
    · walk_at "r"
      obtain ⟨y, z, rfl⟩ : ∃ y z, xs = [y, z] := by
        match xs, hl with
        | [y, z], _ => exact ⟨y, z, rfl⟩
        | [], h => simp at h
        | [_], h => simp at h
        | _ :: _ :: _ :: r, h => simp at h; omega
      cases al1 with
      | cons h1 al1 =>
      cases al1 with
      | cons h2 al1 =>
      cases al1
      rename_i d1 d2
      refine Jv.lcK (j := 1) (i := 0) rfl sq (fun v => .bl (Jv.wholeV v (.int 1) (.int 6))) (by simp) (fun v H2 m s2 P hP => ?_) (fun D H2 s2 hD eD => ?_)
      · walk_at "r"
        rcases List.mem_cons.mp m with rfl | m
        · exact ⟨_, _, _, _, rfl, h1.same s2, .inr ⟨_, rfl⟩, .inr ⟨_, rfl⟩, hP _ (Same.refl _)⟩
        · rw [List.mem_singleton.mp m]
          rw [List.mem_singleton.mp m] at hP
          exact ⟨_, _, _, _, rfl, h2.same s2, .inr ⟨_, rfl⟩, .inr ⟨_, rfl⟩, hP _ (Same.refl _)⟩
      · walk_at "r"
        refine Jv.r_all (f := fun v => Jv.wholeV v (.int 1) (.int 6)) eD ?_
        walk_at "r"
        have es : Jv.sidesD d = (match [d1, d2] with | [.int p, .int q] => decide ((1 ≤ p ∧ p ≤ 6) ∧ (1 ≤ q ∧ q ≤ 6) ∧ p * q ≤ 12) | _ => false) := by
          unfold Jv.sidesD; rw [e]
          exact (show ∀ a b : PyData, (match (some [a, b] : Option (List PyData)) with | some [.int p, .int q] => decide ((1 ≤ p ∧ p ≤ 6) ∧ (1 ≤ q ∧ q ≤ 6) ∧ p * q ≤ 12) | _ => false) = (match [a, b] with | [.int p, .int q] => decide ((1 ≤ p ∧ p ≤ 6) ∧ (1 ≤ q ∧ q ≤ 6) ∧ p * q ≤ 12) | _ => false) from fun a b => by cases a <;> cases b <;> rfl) d1 d2
        cases eb : [y, z].all fun v => Jv.wholeV v (.int 1) (.int 6) with
        | false =>
          have e2 : Jv.sidesD d = false := by
            rw [es]
            split
            · rename_i p q e3
              cases e3
              cases h1; cases h2
              refine decide_eq_false fun hh => ?_
              have : ([V.int p, V.int q].all fun v => Jv.wholeV v (.int 1) (.int 6)) = true := by
                simp [Jv.wholeV, Jv.loOk, Jv.hiOk]; omega
              rw [this] at eb; cases eb
            · rfl
          rw [e2] at q
          walk_at "r"; exact q _ (s1.trans s2)
        | true =>
          rw [List.all_cons, List.all_cons, Bool.and_eq_true, Bool.and_eq_true] at eb
          obtain ⟨p, rfl, p1, p2⟩ := Jv.wholeV_int eb.1
          obtain ⟨r, rfl, r1, r2⟩ := Jv.wholeV_int eb.2.1
          cases h1; cases h2
          have e2 : Jv.sidesD d = decide (p * r ≤ 12) := by
            rw [es]
            exact decide_eq_decide.mpr ⟨fun h => h.2.2, fun h => ⟨⟨p1, p2⟩, ⟨r1, r2⟩, h⟩⟩
          rw [e2] at q
          walk_at "r"
          refine (sq.same s2).ix (v := .int p) rfl ?_
          walk_at "r"
          refine (sq.same s2).ix (v := .int r) rfl ?_
          walk_at "r"
          exact q _ (s1.trans s2)
end
end K49

namespace K49
open PySem PySem.Spec PyProof.Rows L2
/-! ### ends, truths, lines -/
theorem _root_.Jv.tru_lst {K : PySem.W.Frag} {H : Hp} {a : Addr} {xs : List V} (h : H a = some (.lst xs)) : TruV K (.ref a) H (!xs.isEmpty) := .inl ⟨xs, Jv.sqL_at h, rfl⟩
theorem _root_.Jv.rep_all {n : Nat} {ns : List Nat} : (n :: ns).map (fun (k : Nat) => (k : Int)) = List.replicate (ns.length + 1) (n : Int) ↔ ns.all (fun m => decide (m = n)) = true := by
  rw [List.all_eq_true, List.map_cons, List.replicate_succ, List.cons.injEq]
  constructor
  · rintro ⟨_, h⟩ m hm
    have h2 : ((m : Nat) : Int) ∈ ns.map (fun (k : Nat) => (k : Int)) := List.mem_map.mpr ⟨m, hm, rfl⟩
    rw [h] at h2
    have := List.eq_of_mem_replicate h2
    exact decide_eq_true (by omega)
  · intro h
    refine ⟨rfl, List.eq_replicate_iff.mpr ⟨by simp, fun b hb => ?_⟩⟩
    obtain ⟨m, hm, rfl⟩ := List.mem_map.mp hb
    rw [of_decide_eq_true (h m hm)]
theorem _root_.Jv.flat_one {n : Nat} {v : V} : (List.replicate n [v]).flatten = List.replicate n v := by
  induction n with
  | zero => rfl
  | succ n ih => rw [List.replicate_succ, List.flatten_cons, ih]; rfl

def sp_sides_of_lines (K : PySem.W.Frag) : Sp := fun vs H Q _ => ∃ x d, vs = [x] ∧ Jv.Dv K H x d ∧ Jv.few2 d ∧
  (Jv.linesD d = none → ∀ H', Same H H' → Q .non H') ∧ (∀ p q, Jv.linesD d = some (p, q) → ∀ t H', Same H H' → H' t = some (.tup [.int p, .int q]) → Q (.ref t) H')
section
variable {P : Program} {w : World} {K : PySem.W.Frag} {mg : Str → Option Value} {base : Heap}
theorem ok_sides_of_lines (T : Tx) (O : Ok K mg T) : FnOk P w K mg base CX0 2 T.f_sides_of_lines T.d_sides_of_lines ["lines"] (sp_sides_of_lines K) := by
  refine O.F_sides_of_lines.ok sc_sides_of_lines (fun vs H Q E h => by obtain ⟨_, _, rfl, _⟩ := h; rfl) (fun cdv A outer s H vs Q E hr h => ?_)
  obtain ⟨x, d, rfl, hx, fw, q1, q2⟩ := h
  refine ⟨_, (pss_cons (ps_if (PW.pt (pw_or (pt_not (pt_val (pe_call (ok_is_sequence T O) (hr.mono (by decide)) (by rfl) O.m_is_sequence O.F_is_sequence.kp O.b_is_sequence .nil pass0 (pa_cons (pv 0) pa_nil)))) (pw_or1 (pt_not (pt_val (pe_callB (r := rAll K) (cr_all rfl) (by rfl) O.z_all (by decide +kernel) (pa_cons (pe_lc (own := [("line", 2)]) (by rfl) sc_sides_of_lines.nd (Jv.piOr (show PI _ _ _ (iList K _) from pi_list (pv 0)) (show PI _ _ _ (iTup K _) from pi_tup (pv 0))) (blkOk_by (own := [("line", 2)]) (N := ["lines", "lengths", "line"]) (sc := defScope s_sides_of_lines) (scope := ({ kind := .function, names := [(".0", .local), ("line", .local), ("is_sequence", .globalImplicit)], isGenerator := false, isCoroutine := false } : Scope)) (by decide +kernel)) (fun _ _ _ _ _ => (pg_name (i := 2) sc_sides_of_lines.nd rfl (Or.inl rfl))) (fun _ _ _ _ _ => pts_nil) (fun _ _ _ _ _ => (pe_call (ok_is_sequence T O) (hr.mono (by decide)) (by rfl) O.m_is_sequence O.F_is_sequence.kp O.b_is_sequence .nil pass0 (pa_cons (pv 2) pa_nil)))) pa_nil))))))) (pss_one (ps_ret pe_non)) pss_nil)
  (pss_cons (ps_setLc (i := 1) (own := [("line", 2)]) (by rfl) sc_sides_of_lines.nd rfl rfl (sw_true rfl rfl rfl (by decide +kernel)) (Jv.piOr (show PI _ _ _ (iList K _) from pi_list (pv 0)) (show PI _ _ _ (iTup K _) from pi_tup (pv 0))) (blkOk_by (own := [("line", 2)]) (N := ["lines", "lengths", "line"]) (sc := defScope s_sides_of_lines) (scope := ({ kind := .function, names := [(".0", .local), ("line", .local), ("len", .globalImplicit)], isGenerator := false, isCoroutine := false } : Scope)) (by decide +kernel)) (fun _ _ _ _ _ => (pg_name (i := 2) sc_sides_of_lines.nd rfl (Or.inl rfl))) (fun _ _ _ _ _ => pts_nil) (fun _ _ _ _ _ => (pe_callB (r := Jv.rLenK K) Jv.cr_len (by rfl) O.z_len (by decide +kernel) (pa_cons (pv 2) pa_nil))))
  (pss_cons (ps_if (PW.pt (pw_or (pt_not (pt_truth (pv 1) (by intro _; rfl))) (pw_or1 (pt_cmpR (r := rNeD K) (op_neD hr.units) (pv 1) (pe_op op_rep (pe_lst (pa_cons (pe_ix (r := rIxL K) ix_list (pv 1) pe_int (fun _ _ => rfl)) pa_nil)) (pe_callB (r := Jv.rLenK K) Jv.cr_len (by rfl) O.z_len (by decide +kernel) (pa_cons (pv 1) pa_nil))) (nomark _))))) (pss_one (ps_ret pe_non)) pss_nil)
  (pss_one (ps_ret (pe_tup (pa_cons (pe_callB (r := Jv.rLenK K) Jv.cr_len (by rfl) O.z_len (by decide +kernel) (pa_cons (pv 1) pa_nil)) (pa_cons (pe_ix (r := rIxL K) ix_list (pv 1) pe_int (fun _ _ => rfl)) pa_nil)))))))), ?_⟩
  walk_at "r"
  refine ⟨_, _, rfl, hx, fun H1 s1 => ?_⟩
  walk_at "r"
  cases e : Jv.seqD d with
  | none =>
    have e2 : Jv.linesD d = none := by unfold Jv.linesD; rw [e]
    walk_at "r"; exact q1 e2 _ s1
  | some ds =>
    obtain ⟨fw1, fw2⟩ := fw ds e
    obtain ⟨xs, sq0, al⟩ := hx.sk e
    have sq := sq0.same s1
    have al1 := al.same s1
    have ll := al.len
    walk_at "r"
    refine Jv.lcS2 (K := K) (N := []) (j := 2) (i := 0) rfl sq .nil (ds.map fun e => .bool (Jv.seqD e).isSome) (by rw [List.length_map]; omega) (by omega) (fun i v e' D H2 hi hv he s2 hN hD P hP => ?_) (fun D ys H2 s2 hD eD dv _ => ?_)
    · walk_at "r"
      obtain ⟨e0, h0e, hv2⟩ := al1.at hv
      rw [List.getElem?_map, h0e] at he
      obtain rfl := Option.some.inj he
      exact ⟨_, _, rfl, hv2.same s2, fun H3 s3 => hP _ _ s3 (.bl _)⟩
    · walk_at "r"
      rw [Jv.hide_nil, show (ds.map fun e => PyData.bool (Jv.seqD e).isSome) = (ds.map fun e => (Jv.seqD e).isSome).map PyData.bool by rw [List.map_map]; rfl] at dv
      rw [Jv.dv_bools dv] at eD
      refine ⟨D, _, rfl, Jv.sqL_at eD, ?_⟩
      rw [List.all_map]
      walk_at "r"
      cases ea : (ds.all fun e => (Jv.seqD e).isSome) with
      | false =>
        have ea2 : (List.all ds ((fun b => id b) ∘ fun e => (Jv.seqD e).isSome)) = false := ea
        have e2 : Jv.linesD d = none := by unfold Jv.linesD; rw [e]; dsimp only; rw [ea, if_neg Bool.false_ne_true]
        rw [show (ds.all (id ∘ fun e => (Jv.seqD e).isSome)) = false from ea]
        walk_at "r"; exact q1 e2 _ (s1.trans s2)
      | true =>
        rw [show (ds.all (id ∘ fun e => (Jv.seqD e).isSome)) = true from ea]
        walk_at "r"
        have al2 := al1.same s2
        have s12 := s1.trans s2
        refine Jv.lcS2 (K := K) (N := []) (j := 2) (i := 0) rfl (sq.same s2) .nil ((ds.map fun e => (((Jv.seqD e).getD []).length : Int)).map PyData.int) (by rw [List.length_map, List.length_map]; omega) (by omega) (fun i v e' D2 H3 hi hv he s3 hN hD2 P hP => ?_) (fun D2 ys2 H3 s3 hD2 eD2 dv2 _ => ?_)
        · walk_at "r"
          obtain ⟨e0, h0e, hv2⟩ := al2.at hv
          rw [List.map_map, List.getElem?_map, h0e] at he
          obtain rfl := Option.some.inj he
          have hs := List.all_eq_true.mp ea e0 (List.mem_of_getElem? h0e)
          obtain ⟨l0, hl0⟩ := Option.isSome_iff_exists.mp hs
          obtain ⟨ys0, sk0, al0⟩ := hv2.sk hl0
          refine (sk0.same s3).len ?_
          show P (.int ys0.length) _
          rw [al0.len]
          refine hP _ _ (Same.refl _) ?_
          show Jv.Dv K _ _ (.int (((Jv.seqD e0).getD []).length : Int))
          rw [hl0]
          exact .int _
        · walk_at "r"
          rw [Jv.hide_nil] at dv2
          rw [Jv.dv_intsV dv2] at eD2
          have e3 : Jv.linesD d = (match ds.map (fun e => ((Jv.seqD e).getD []).length) with
            | [] => none
            | n :: ns => if ns.all (fun m => decide (m = n)) = true then some (ns.length + 1, n) else none) := by unfold Jv.linesD; rw [e]; dsimp only; (rw [ea, if_pos rfl]) <;> rfl
          rw [show (ds.map fun e => (((Jv.seqD e).getD []).length : Int)) = (ds.map fun e => ((Jv.seqD e).getD []).length).map fun (n : Nat) => (n : Int) by rw [List.map_map]; rfl] at eD2
          generalize eL : ds.map (fun e => ((Jv.seqD e).getD []).length) = L at eD2 e3
          have lL : L.length ≤ 100 := by rw [← eL, List.length_map]; exact fw1
          cases L with
          | nil =>
            refine ⟨false, Jv.tru_lst eD2, ?_⟩
            walk_at "r"
            exact q1 e3 _ (s12.trans s3)
          | cons n ns =>
            refine ⟨true, Jv.tru_lst eD2, ?_⟩
            walk_at "r"
            refine Jv.r_ixL (Jv.sqL_at eD2) (v := .int n) (Jv.at_i (by decide) rfl) ?_
            walk_at "r"
            intro t ht
            walk_at "r"
            rw [List.length_map, List.length_map]
            refine ⟨t, _, [.int n], rfl, rfl, upd_same, by omega, by simp at lL ⊢; omega, Jv.small_of (by simp at lL ⊢; omega), fun p hp => ?_⟩
            have e4 : (List.replicate (((n :: ns).length : Nat) : Int).toNat [V.int n]).flatten = (List.replicate (ns.length + 1) (n : Int)).map V.int := by
              rw [Jv.flat_one, List.map_replicate]; rfl
            rw [e4]
            refine ⟨_, _, Jv.dpL (by walk_at "sq"), Jv.dpL (by walk_at "sq"), Jv.shapedL _, Jv.shapedL _, ?_⟩
            rw [Jv.eqvL]
            walk_at "r"
            have sAll := (s12.trans s3).trans ((Jv.same_new (u := .lst [.int n]) ht).trans (Jv.same_new (u := .lst ((List.replicate (ns.length + 1) (n : Int)).map V.int)) hp))
            cases ec : ns.all (fun m => decide (m = n)) with
            | false =>
              dsimp only at e3
              rw [ec, if_neg Bool.false_ne_true] at e3
              rw [decide_eq_false (fun z => by rw [Jv.rep_all.mp z] at ec; cases ec)]
              walk_at "r"
              exact q1 e3 _ sAll
            | true =>
              dsimp only at e3
              rw [ec, if_pos rfl] at e3
              rw [decide_eq_true (Jv.rep_all.mpr ec)]
              walk_at "r"
              refine Jv.r_ixL (Jv.sqL_at (xs := ((n :: ns).map fun (k : Nat) => (k : Int)).map V.int) (by walk_at "hp")) (v := .int n) (Jv.at_i (by decide) rfl) ?_
              walk_at "r"
              intro u hu
              rw [List.length_map, List.length_map]
              exact q2 _ _ e3 u _ (sAll.trans (Jv.same_new hu)) upd_same
end
end K49

namespace K49
open PySem PySem.Spec PyProof.Rows L2
/-! ### goals -/
def sp_BadX_init (C : Addr) (f : Str) : Sp := fun vs H Q _ => ∃ a v, vs = [.ref a, v] ∧ H a = some (exo a C none) ∧ ∀ d, H d = none → d ≠ a → Q .non (upd (upd H d (exd d [(f, v)])) a (exo a C (some d)))
/-- sorted, each once, of numbers from -l to l -/
def neatI (l : Int) (ns : List Int) : List Int := ((List.range (2 * l + 1).toNat).map fun (i : Nat) => (i : Int) - l).filter fun n => decide (n ∈ ns)
def lineD (l : Int) (line : List (List Int)) : PyData := .tuple (line.map fun ns => .tuple ((neatI l ns).map .int))
def wantD (l : Int) (lls : List (List (List Int))) : PyData := .tuple (lls.map (lineD l))
def GAt (K : PySem.W.Frag) (H : Hp) (C a : Addr) (l : Int) (W : PyData) (k0 k1 : Bool) (p q : Int) : Prop :=
  ∃ dx w k s, H a = some (.ins C dx [("ladder", .int l), ("wanted", w), ("knows", k), ("sides", s)]) ∧ Jv.Dv K H w W ∧ Jv.Dv K H k (.tuple [.bool k0, .bool k1]) ∧ Jv.Dv K H s (.tuple [.int p, .int q])
/-- data of lines of lists of ends -/
def EndsR (e : PyData) (ns : List Int) : Prop := Jv.seqD e = some (ns.map .int)
def LineR (r : PyData) (line : List (List Int)) : Prop := ∃ es, Jv.seqD r = some es ∧ Paired EndsR es line
def LinesR (d : PyData) (lls : List (List (List Int))) : Prop := ∃ rows, Jv.seqD d = some rows ∧ Paired LineR rows lls
def sidesOf : Option (Nat × Nat) → PyData
  | none => .none
  | some (p, q) => .tuple [.int p, .int q]
def allEnds (l : Int) (d : PyData) : Bool := (((Jv.seqD d).getD []).flatMap fun r => (Jv.seqD r).getD []).all (Jv.endsD l)
def faultG (dl dw dk : PyData) : Option Str :=
  match dl with
  | .int l => if Jv.wholeD dl (.int 0) (.int 6) = false then some "ladder" else if Jv.sidesD (sidesOf (Jv.linesD dw)) = false then some "sides" else if allEnds l dw = false then some "wanted" else if Jv.knowsD dk = false then some "knows" else none
  | _ => some "ladder"
/-- what goals may be made of -/
structure GoodG (dl dw dk : PyData) (l : Int) (lls : List (List (List Int))) (k0 k1 : Bool) (p q : Nat) : Prop where
  dl : dl = .int l
  l0 : 0 ≤ l
  l6 : l ≤ 6
  dw : LinesR dw lls
  hp : lls.length = p
  hq : ∀ line ∈ lls, line.length = q
  p0 : 1 ≤ p
  p6 : p ≤ 6
  q0 : 1 ≤ q
  q6 : q ≤ 6
  pq : p * q ≤ 12
  ends : ∀ line ∈ lls, ∀ ns ∈ line, ns ≠ [] ∧ ns.length ≤ 60 ∧ ∀ n ∈ ns, -l ≤ n ∧ n ≤ l
  dk : Jv.seqD dk = some [.bool k0, .bool k1]
theorem memL {α β : Type} {F : α → β → Prop} : ∀ {xs : List α} {ys : List β} {x : α}, Paired F xs ys → x ∈ xs → ∃ y ∈ ys, F x y
  | _, _, _, .nil, m => by cases m
  | _, _, _, .cons a b, m => by
    rcases List.mem_cons.mp m with rfl | m
    · exact ⟨_, List.mem_cons_self, a⟩
    · obtain ⟨y, h1, h2⟩ := memL b m
      exact ⟨y, List.mem_cons_of_mem _ h1, h2⟩
theorem pairAt {α β : Type} {F : α → β → Prop} : ∀ {xs : List α} {ys : List β} {i : Nat} {x : α}, Paired F xs ys → xs[i]? = some x → ∃ y, ys[i]? = some y ∧ F x y
  | _, _, _, _, .nil, e => by simp at e
  | _, _, 0, _, .cons a _, e => by
    simp at e; subst e; exact ⟨_, rfl, a⟩
  | _, _, i + 1, _, .cons _ b, e => by
    simp at e ⊢; exact pairAt b e
theorem LineR.some {r : PyData} {line : List (List Int)} (h : LineR r line) : (Jv.seqD r).isSome = true := by
  obtain ⟨es, e, _⟩ := h
  rw [e]; rfl
theorem LineR.len {r : PyData} {line : List (List Int)} (h : LineR r line) : ((Jv.seqD r).getD []).length = line.length := by
  obtain ⟨es, e, p⟩ := h
  rw [e]; exact Paired.length p
theorem lines_len : ∀ {rows : List PyData} {lls : List (List (List Int))}, Paired LineR rows lls → rows.map (fun e => ((Jv.seqD e).getD []).length) = lls.map List.length
  | _, _, .nil => rfl
  | _, _, .cons a b => by rw [List.map_cons, List.map_cons, a.len, lines_len b]
section
variable {dl dw dk : PyData} {l : Int} {lls : List (List (List Int))} {k0 k1 : Bool} {p q : Nat}
theorem GoodG.lines (g : GoodG dl dw dk l lls k0 k1 p q) : Jv.linesD dw = .some (p, q) := by
  obtain ⟨rows, e, pr⟩ := g.dw
  have hall : (rows.all fun e => (Jv.seqD e).isSome) = true := List.all_eq_true.mpr fun r hr => by
    obtain ⟨line, _, h⟩ := memL pr hr
    exact h.some
  unfold Jv.linesD
  rw [e]; dsimp only
  rw [hall, if_pos rfl, lines_len pr]
  have hp := g.hp
  have hq := g.hq
  have p0 := g.p0
  cases lls with
  | nil => exfalso; rw [← hp] at p0; exact absurd p0 (by decide)
  | cons a r =>
    rw [List.map_cons]
    show (if _ then _ else _) = _
    have h1 : a.length = q := hq a List.mem_cons_self
    have h2 : (r.map List.length).all (fun m => decide (m = a.length)) = true := List.all_eq_true.mpr fun m hm => by
      obtain ⟨b, hb, rfl⟩ := List.mem_map.mp hm
      exact decide_eq_true (by rw [h1]; exact hq b (List.mem_cons_of_mem _ hb))
    rw [h2, if_pos rfl, List.length_map, h1, ← hp]; rfl
theorem GoodG.sides (g : GoodG dl dw dk l lls k0 k1 p q) : Jv.sidesD (sidesOf (Jv.linesD dw)) = true := by
  rw [g.lines]
  show decide _ = true
  have h := g.pq
  refine decide_eq_true ⟨⟨?_, ?_⟩, ⟨?_, ?_⟩, ?_⟩
  · have := g.p0; omega
  · have := g.p6; omega
  · have := g.q0; omega
  · have := g.q6; omega
  · exact_mod_cast h
theorem GoodG.allEnds (g : GoodG dl dw dk l lls k0 k1 p q) : allEnds l dw = true := by
  obtain ⟨rows, e, pr⟩ := g.dw
  unfold K49.allEnds
  rw [e]
  refine List.all_eq_true.mpr fun x hx => ?_
  obtain ⟨r, hr, hx⟩ := List.mem_flatMap.mp hx
  obtain ⟨line, hline, es, e2, pr2⟩ := memL pr hr
  rw [e2] at hx
  obtain ⟨ns, hns, h⟩ := memL pr2 hx
  obtain ⟨h1, _, h3⟩ := g.ends line hline ns hns
  unfold Jv.endsD
  rw [show Jv.seqD x = .some (ns.map .int) from h]
  show (decide _ && _) = true
  rw [decide_eq_true (by rw [List.length_map]; exact List.length_pos_iff.mpr h1), Bool.true_and, List.all_map, List.all_eq_true]
  intro n hn
  obtain ⟨a, b⟩ := h3 n hn
  show (decide (-l ≤ n) && decide (n ≤ l)) = true
  rw [decide_eq_true a, decide_eq_true b]; rfl
theorem GoodG.knows (g : GoodG dl dw dk l lls k0 k1 p q) : Jv.knowsD dk = true := by
  unfold Jv.knowsD
  rw [g.dk]; rfl
theorem GoodG.whole (g : GoodG dl dw dk l lls k0 k1 p q) : Jv.wholeD dl (.int 0) (.int 6) = true := by
  rw [g.dl]
  show (decide (0 ≤ l) && decide (l ≤ 6)) = true
  rw [decide_eq_true g.l0, decide_eq_true g.l6]; rfl
theorem GoodG.nofault (g : GoodG dl dw dk l lls k0 k1 p q) : faultG dl dw dk = none := by
  have h1 := g.whole; have h2 := g.sides; have h3 := g.allEnds; have h4 := g.knows; have h5 := g.dl
  subst h5
  unfold faultG
  dsimp only
  rw [h1, h2, h3, h4]; rfl
end
theorem neat_eq {l : Int} {ns ms : List Int} (h : ∀ n ∈ ns, -l ≤ n ∧ n ≤ l) (hs : ms.Pairwise (· < ·)) (hm : ∀ k : Int, k ∈ ms ↔ decide (k ∈ ns) = true) : ms = neatI l ns := by
  refine Jv.sorted_ext hs ?_ fun n => ?_
  · unfold neatI
    refine List.Pairwise.filter _ ?_
    rw [List.pairwise_map]
    exact List.pairwise_lt_range.imp fun h => by omega
  · rw [hm n, decide_eq_true_iff]
    unfold neatI
    rw [List.mem_filter, decide_eq_true_iff]
    refine ⟨fun m => ⟨?_, m⟩, fun m => m.2⟩
    obtain ⟨a, b⟩ := h n m
    exact List.mem_map.mpr ⟨(n + l).toNat, by rw [List.mem_range]; omega, by omega⟩
theorem raise_same {H : Hp} {a d : Addr} {x y z u : HO} (ha : H a = none) (hd : H d = none) : Same H (upd (del (upd (upd (upd H a x) d y) a z) a) d u) := fun b o hb => by
  have na := ne_of_none hb ha
  have nd := ne_of_none hb hd
  rw [upd_ne nd, del_ne na, upd_ne na, upd_ne nd, upd_ne na]
  exact hb
def sp_Goals_init (K : PySem.W.Frag) (C CB : Addr) : Sp := fun vs H Q E => ∃ a dx xl dl xw dw xk dk, vs = [.ref a, xl, xw, xk] ∧ H a = some (.ins C dx []) ∧ Jv.Dv K H xl dl ∧ Jv.Dv K H xw dw ∧ Jv.few3 dw ∧ Jv.Dv K H xk dk ∧
  ((∃ f, faultG dl dw dk = some f ∧ ∀ d H', Same H H' → H' d = some (.xd [("what", .str f)]) → E (.ref CB) (some d) H') ∨
   (∃ l lls k0 k1 p q, GoodG dl dw dk l lls k0 k1 p q ∧ ∀ H', (∀ b o, b ≠ a → H b = some o → H' b = some o) → GAt K H' C a l (wantD l lls) k0 k1 p q → Q .non H'))
section
variable {P : Program} {w : World} {K : PySem.W.Frag} {mg : Str → Option Value} {base : Heap}
end
end K49

namespace K49
open PySem PySem.Spec PyProof.Rows L2
/-! ### costs: what they are made of -/
def entD (l : Int) (d : PyData) : Bool := match Jv.seqD d with
  | some ds => decide ((ds.length : Int) = l + 1) && ds.all fun e => Jv.wholeD e (.int 0) (.int 1000000)
  | none => false
def sp_is_entry (K : PySem.W.Frag) : Sp := fun vs H Q _ => ∃ x d l, vs = [x, .int l] ∧ Jv.Dv K H x d ∧ Jv.few1 d ∧ ∀ H', Same H H' → Q (.bl (entD l d)) H'
def allEnt (l : Int) (d : PyData) : Bool := (((Jv.seqD d).getD []).flatMap fun r => (Jv.seqD r).getD []).all (entD l)
def faultC (dl dw : PyData) : Option Str :=
  match dl with
  | .int l => if Jv.wholeD dl (.int 0) (.int 6) = false then some "ladder" else if Jv.sidesD (sidesOf (Jv.linesD dw)) = false then some "sides" else if allEnt l dw = false then some "cost" else none
  | _ => some "ladder"
structure Gc (l : Int) (L : List (List (List Int))) (p q : Nat) : Prop where
  l0 : 0 ≤ l
  l6 : l ≤ 6
  hp : L.length = p
  hq : ∀ line ∈ L, line.length = q
  p0 : 1 ≤ p
  p6 : p ≤ 6
  q0 : 1 ≤ q
  q6 : q ≤ 6
  pq : p * q ≤ 12
  len : ∀ line ∈ L, ∀ ns ∈ line, (ns.length : Int) = l + 1
  ent : ∀ line ∈ L, ∀ ns ∈ line, ∀ n ∈ ns, 0 ≤ n ∧ n ≤ 1000000
structure GoodC (dl dw : PyData) (l : Int) (L : List (List (List Int))) (p q : Nat) : Prop where
  dl : dl = .int l
  dw : LinesR dw L
  g : Gc l L p q
def rowT (line : List (List Int)) : PyData := .tuple (line.map fun ns => .tuple (ns.map .int))
def linT (L : List (List (List Int))) : PyData := .tuple (L.map rowT)
def CAt (K : PySem.W.Frag) (H : Hp) (C a : Addr) (l : Int) (W : PyData) (p q : Int) : Prop :=
  ∃ dx w s, H a = some (.ins C dx [("ladder", .int l), ("lines", w), ("sides", s)]) ∧ Jv.Dv K H w W ∧ Jv.Dv K H s (.tuple [.int p, .int q])
section
variable {dl dw : PyData} {l : Int} {L : List (List (List Int))} {p q : Nat}
theorem GoodC.lines (g : GoodC dl dw l L p q) : Jv.linesD dw = .some (p, q) := by
  obtain ⟨rows, e, pr⟩ := g.dw
  have hall : (rows.all fun e => (Jv.seqD e).isSome) = true := List.all_eq_true.mpr fun r hr => by
    obtain ⟨line, _, h⟩ := memL pr hr
    exact h.some
  unfold Jv.linesD
  rw [e]; dsimp only
  rw [hall, if_pos rfl, lines_len pr]
  have hp := g.g.hp
  have hq := g.g.hq
  have p0 := g.g.p0
  cases L with
  | nil => exfalso; rw [← hp] at p0; exact absurd p0 (by decide)
  | cons a r =>
    rw [List.map_cons]
    show (if _ then _ else _) = _
    have h1 : a.length = q := hq a List.mem_cons_self
    have h2 : (r.map List.length).all (fun m => decide (m = a.length)) = true := List.all_eq_true.mpr fun m hm => by
      obtain ⟨b, hb, rfl⟩ := List.mem_map.mp hm
      exact decide_eq_true (by rw [h1]; exact hq b (List.mem_cons_of_mem _ hb))
    rw [h2, if_pos rfl, List.length_map, h1, ← hp]; rfl
theorem GoodC.sides (g : GoodC dl dw l L p q) : Jv.sidesD (sidesOf (Jv.linesD dw)) = true := by
  rw [g.lines]
  show decide _ = true
  have h := g.g.pq
  refine decide_eq_true ⟨⟨?_, ?_⟩, ⟨?_, ?_⟩, ?_⟩
  · have := g.g.p0; omega
  · have := g.g.p6; omega
  · have := g.g.q0; omega
  · have := g.g.q6; omega
  · exact_mod_cast h
theorem GoodC.allEnt (g : GoodC dl dw l L p q) : allEnt l dw = true := by
  obtain ⟨rows, e, pr⟩ := g.dw
  unfold K49.allEnt
  rw [e]
  refine List.all_eq_true.mpr fun x hx => ?_
  obtain ⟨r, hr, hx⟩ := List.mem_flatMap.mp hx
  obtain ⟨line, hline, es, e2, pr2⟩ := memL pr hr
  rw [e2] at hx
  obtain ⟨ns, hns, h⟩ := memL pr2 hx
  have h1 := g.g.len line hline ns hns
  unfold entD
  rw [show Jv.seqD x = .some (ns.map .int) from h]
  show (decide _ && _) = true
  rw [decide_eq_true (by rw [List.length_map]; exact h1), Bool.true_and, List.all_map, List.all_eq_true]
  intro n hn
  obtain ⟨a, b⟩ := g.g.ent line hline ns hns n hn
  show (decide (0 ≤ n) && decide (n ≤ 1000000)) = true
  rw [decide_eq_true a, decide_eq_true b]; rfl
theorem GoodC.whole (g : GoodC dl dw l L p q) : Jv.wholeD dl (.int 0) (.int 6) = true := by
  rw [g.dl]
  show (decide (0 ≤ l) && decide (l ≤ 6)) = true
  rw [decide_eq_true g.g.l0, decide_eq_true g.g.l6]; rfl
theorem GoodC.nofault (g : GoodC dl dw l L p q) : faultC dl dw = none := by
  have h1 := g.whole; have h2 := g.sides; have h3 := g.allEnt; have h5 := g.dl
  subst h5
  unfold faultC
  dsimp only
  rw [h1, h2, h3]; rfl
end
def sp_Costs_init (K : PySem.W.Frag) (C CB : Addr) : Sp := fun vs H Q E => ∃ a dx xl dl xw dw, vs = [.ref a, xl, xw] ∧ H a = some (.ins C dx []) ∧ Jv.Dv K H xl dl ∧ Jv.Dv K H xw dw ∧ Jv.few3 dw ∧
  ((∃ f, faultC dl dw = some f ∧ ∀ d H', Same H H' → H' d = some (.xd [("what", .str f)]) → E (.ref CB) (some d) H') ∨
   (∃ l L p q, GoodC dl dw l L p q ∧ ∀ H', (∀ b o, b ≠ a → H b = some o → H' b = some o) → CAt K H' C a l (linT L) p q → Q .non H'))
section
variable {P : Program} {w : World} {K : PySem.W.Frag} {mg : Str → Option Value} {base : Heap}
theorem ok_BadCostsu_initu (T : Tx) (O : Ok K mg T) : FnOk P w K mg base CX0 1 T.f_BadCostsu_initu T.d_BadCostsu_initu ["self", "what"] (sp_BadX_init T.C_BadCosts "what") := by
  refine O.F_BadCostsu_initu.ok sc_BadCostsu_initu (fun vs H Q E h => by obtain ⟨_, _, rfl, _⟩ := h; rfl) (fun cdv A outer s H vs Q E hr h => ?_)
  obtain ⟨a, v, rfl, ha, q⟩ := h
  refine ⟨_, (pss_one (ps_ost (pv 0) (pv 1))), ?_⟩
  exact ⟨_, rfl, _, rfl, a, T.C_BadCosts, rfl, O.x_BadCosts.o, O.n_BadCosts_what, .inl ⟨ha, fun d hd ne => q d hd ne⟩⟩
theorem ok_is_entry (T : Tx) (O : Ok K mg T) : FnOk P w K mg base CX0 2 T.f_is_entry T.d_is_entry ["thing", "ladder"] (sp_is_entry K) := by
  refine O.F_is_entry.ok sc_is_entry (fun vs H Q E h => by obtain ⟨_, _, _, rfl, _⟩ := h; rfl) (fun cdv A outer s H vs Q E hr h => ?_)
  obtain ⟨x, d, l, rfl, hx, fw, q⟩ := h
  refine ⟨_, (pss_one (ps_ret (pe_and (pe_call (ok_is_sequence T O) (hr.mono (by decide)) (by rfl) O.m_is_sequence O.F_is_sequence.kp O.b_is_sequence .nil pass0 (pa_cons (pv 0) pa_nil)) (pe_and (pe_cmpR op_eq (pe_callB (r := Jv.rLenK K) Jv.cr_len (by rfl) O.z_len (by decide +kernel) (pa_cons (pv 0) pa_nil)) (pe_op op_add (pv 1) pe_int) (nomark _)) (pe_one (pe_callB (r := rAll K) (cr_all rfl) (by rfl) O.z_all (by decide +kernel) (pa_cons (pe_lc (own := [("cost", 2)]) (by rfl) sc_is_entry.nd (Jv.piOr (show PI _ _ _ (iList K _) from pi_list (pv 0)) (show PI _ _ _ (iTup K _) from pi_tup (pv 0))) (blkOk_by (own := [("cost", 2)]) (N := ["thing", "ladder", "cost"]) (sc := defScope s_is_entry) (scope := ({ kind := .function, names := [(".0", .local), ("cost", .local), ("is_whole", .globalImplicit), ("COST_MOST", .globalImplicit)], isGenerator := false, isCoroutine := false } : Scope)) (by decide +kernel)) (fun _ _ _ _ _ => (pg_name (i := 2) sc_is_entry.nd rfl (Or.inl rfl))) (fun _ _ _ _ _ => pts_nil) (fun _ _ _ _ _ => (pe_call (ok_is_whole T O) (hr.mono (by decide)) (by rfl) O.m_is_whole O.F_is_whole.kp O.b_is_whole .nil pass0 (pa_cons (pv 2) (pa_cons pe_int (pa_cons (pe_glob (v := .int (1000000)) (by rfl) O.c_COST_MOST ⟨_, rfl⟩) pa_nil)))))) pa_nil))))))), ?_⟩
  walk_at "r"
  refine ⟨_, _, rfl, hx, fun H1 s1 => ?_⟩
  walk_at "r"
  cases e : Jv.seqD d with
  | none =>
    have e2 : entD l d = false := by unfold entD; rw [e]
    rw [e2] at q
    walk_at "r"; exact q _ s1
  | some ds =>
    have fw1 := fw ds e
    obtain ⟨xs, sq0, al⟩ := hx.sk e
    have sq := sq0.same s1
    have al1 := al.same s1
    have ll := al.len
    have e2 : entD l d = (decide ((ds.length : Int) = l + 1) && ds.all fun e => Jv.wholeD e (.int 0) (.int 1000000)) := by unfold entD; rw [e]
    rw [e2] at q
    walk_at "r"
    refine sq.len ?_
    walk_at "r"
    refine Jv.r_decI (fun h0 => ?_) (fun h0 => ?_)
    · rw [decide_eq_true (p := (ds.length : Int) = l + 1) (by omega), Bool.true_and] at q
      walk_at "r"
      refine Jv.lcS2 (K := K) (N := []) (j := 2) (i := 0) rfl sq .nil (ds.map fun e => .bool (Jv.wholeD e (.int 0) (.int 1000000))) (by rw [List.length_map]; omega) (by omega) (fun i v e' D H2 hi hv he s2 hN hD P hP => ?_) (fun D ys H2 s2 hD eD dv _ => ?_)
      · walk_at "r"
        obtain ⟨e0, h0e, hv2⟩ := al1.at hv
        rw [List.getElem?_map, h0e] at he
        obtain rfl := Option.some.inj he
        refine ⟨_, _, _, _, rfl, hv2.same s2, .inr ⟨_, rfl⟩, .inr ⟨_, rfl⟩, ?_⟩
        rw [hv2.whole]
        exact hP _ _ (Same.refl _) (.bl _)
      · walk_at "r"
        rw [Jv.hide_nil, show (ds.map fun e => PyData.bool (Jv.wholeD e (.int 0) (.int 1000000))) = (ds.map fun e => Jv.wholeD e (.int 0) (.int 1000000)).map PyData.bool by rw [List.map_map]; rfl] at dv
        rw [Jv.dv_bools dv] at eD
        refine ⟨D, _, rfl, Jv.sqL_at eD, ?_⟩
        rw [List.all_map]
        exact q _ (s1.trans s2)
    · rw [decide_eq_false (p := (ds.length : Int) = l + 1) (by omega), Bool.false_and] at q
      walk_at "r"
      exact q _ s1
theorem ok_Costsu_initu (T : Tx) (O : Ok K mg T) : FnOk P w K mg base (L2.CX P w) 3 T.f_Costsu_initu T.d_Costsu_initu ["self", "ladder", "lines"] (sp_Costs_init K T.C_Costs T.C_BadCosts) := by
  refine O.F_Costsu_initu.okX sc_Costsu_initu (fun vs H Q E h => by obtain ⟨_, _, _, _, _, _, rfl, _⟩ := h; rfl) (fun cdv A outer s H vs Q E hr h => ?_)
  obtain ⟨a, dx, xl, dl, xw, dw, rfl, ha, hl, hw, fw, q⟩ := h
  refine ⟨_, (pss_cons (ps_if (pt_not (pt_val (pe_call (ok_is_whole T O) (hr.mono (by decide)) (by rfl) O.m_is_whole O.F_is_whole.kp O.b_is_whole .nil pass0 (pa_cons (pv 1) (pa_cons pe_int (pa_cons (pe_glob (v := .int (6)) (by rfl) O.c_LADDER_MOST ⟨_, rfl⟩) pa_nil)))))) (pss_one (ps_raise rfl (takes_of rfl rfl rfl rfl) (pmk_oex O.x_BadCosts.o O.x_BadCosts.n O.x_BadCosts.y (ok_BadCostsu_initu T O) (hr.mono (by decide)) O.b_BadCostsu_initu .nil pass0 (by rfl) O.m_BadCosts (pa_cons pe_str pa_nil)))) pss_nil)
  (pss_cons (ps_set (i := 3) sc_Costsu_initu.nd rfl (Or.inl rfl) (pe_call (ok_sides_of_lines T O) (hr.mono (by decide)) (by rfl) O.m_sides_of_lines O.F_sides_of_lines.kp O.b_sides_of_lines .nil pass0 (pa_cons (pv 2) pa_nil)))
  (pss_cons (ps_if (pt_not (pt_val (pe_call (ok_are_sides T O) (hr.mono (by decide)) (by rfl) O.m_are_sides O.F_are_sides.kp O.b_are_sides .nil pass0 (pa_cons (pv 3) pa_nil)))) (pss_one (ps_raise rfl (takes_of rfl rfl rfl rfl) (pmk_oex O.x_BadCosts.o O.x_BadCosts.n O.x_BadCosts.y (ok_BadCostsu_initu T O) (hr.mono (by decide)) O.b_BadCostsu_initu .nil pass0 (by rfl) O.m_BadCosts (pa_cons pe_str pa_nil)))) pss_nil)
  (pss_cons (ps_if (pt_not (pt_val (pe_callB (r := rAll K) (cr_all rfl) (by rfl) O.z_all (by decide +kernel) (pa_cons (pe_lc2 (own := [("line", 4), ("entry", 5)]) (vs1 := [5]) (by rfl) sc_Costsu_initu.nd (Jv.piOr (show PI _ _ _ (iList K _) from pi_list (pv 2)) (show PI _ _ _ (iTup K _) from pi_tup (pv 2))) (blkOk_by (own := [("line", 4), ("entry", 5)]) (N := ["self", "ladder", "lines", "sides", "line", "entry"]) (sc := defScope s_Costsu_initu) (by decide +kernel)) (by decide) (fun _ _ _ _ _ => (pg_name (i := 4) sc_Costsu_initu.nd rfl (Or.inl rfl))) (fun _ _ _ _ _ => pts_nil) (fun _ _ _ _ _ => (Jv.piOr (show PI _ _ _ (iList K _) from pi_list (pv 4)) (show PI _ _ _ (iTup K _) from pi_tup (pv 4)))) (fun _ _ _ _ _ => (pg_name (i := 5) sc_Costsu_initu.nd rfl (Or.inl rfl))) (fun _ _ _ _ _ => pts_nil) (fun _ _ _ _ _ => (pe_call (ok_is_entry T O) (hr.mono (by decide)) (by rfl) O.m_is_entry O.F_is_entry.kp O.b_is_entry .nil pass0 (pa_cons (pv 5) (pa_cons (pv 1) pa_nil))))) pa_nil)))) (pss_one (ps_raise rfl (takes_of rfl rfl rfl rfl) (pmk_oex O.x_BadCosts.o O.x_BadCosts.n O.x_BadCosts.y (ok_BadCostsu_initu T O) (hr.mono (by decide)) O.b_BadCostsu_initu .nil pass0 (by rfl) O.m_BadCosts (pa_cons pe_str pa_nil)))) pss_nil)
  (pss_cons (ps_fld (pv 0) (pv 1) rfl)
  (pss_cons (ps_fld (pv 0) (pe_callTy (r := Jv.rTupOf K) call_tuple_of (by rfl) O.z_tuple (by decide +kernel) (pa_cons (pe_lc (own := [("line", 4)]) (by rfl) sc_Costsu_initu.nd (Jv.piOr (show PI _ _ _ (iList K _) from pi_list (pv 2)) (show PI _ _ _ (iTup K _) from pi_tup (pv 2))) (blkOk_by (own := [("line", 4)]) (N := ["self", "ladder", "lines", "sides", "line", "entry"]) (sc := defScope s_Costsu_initu) (scope := ({ kind := .function, names := [(".0", .local), ("line", .local), ("tuple", .globalImplicit)], isGenerator := false, isCoroutine := false } : Scope)) (by decide +kernel)) (fun _ _ _ _ _ => (pg_name (i := 4) sc_Costsu_initu.nd rfl (Or.inl rfl))) (fun _ _ _ _ _ => pts_nil) (fun _ _ _ _ _ => (pe_callTy (r := Jv.rTupOf K) call_tuple_of (by rfl) O.z_tuple (by decide +kernel) (pa_cons (pe_lc (own := [("entry", 5)]) (by rfl) sc_Costsu_initu.nd (Jv.piOr (show PI _ _ _ (iList K _) from pi_list (pv 4)) (show PI _ _ _ (iTup K _) from pi_tup (pv 4))) (blkOk_by (own := [("entry", 5)]) (N := ["self", "ladder", "lines", "sides", "line", "entry"]) (sc := ({ kind := .function, names := [(".0", .local), ("line", .local), ("tuple", .globalImplicit)], isGenerator := false, isCoroutine := false } : Scope)) (scope := ({ kind := .function, names := [(".0", .local), ("entry", .local), ("tuple", .globalImplicit)], isGenerator := false, isCoroutine := false } : Scope)) (by decide +kernel)) (fun _ _ _ _ _ => (pg_name (i := 5) sc_Costsu_initu.nd rfl (Or.inl rfl))) (fun _ _ _ _ _ => pts_nil) (fun _ _ _ _ _ => (pe_callTy (r := Jv.rTupOf K) call_tuple_of (by rfl) O.z_tuple (by decide +kernel) (pa_cons (pv 5) pa_nil)))) pa_nil)))) pa_nil)) rfl)
  (pss_one (ps_fld (pv 0) (pv 3) rfl)))))))), ?_⟩
  walk_at "r"
  have ea : ∀ (f : Str) (Hx : Hp), Same H Hx → faultC dl dw = some f → ∀ d H', Same Hx H' → H' d = some (.xd [("what", .str f)]) → E (.ref T.C_BadCosts) (some d) H' := fun f Hx sx hf d H' s' hd => by
    rcases q with ⟨f2, hf2, q⟩ | ⟨l, lls, p, q0, g, _⟩
    · rw [hf] at hf2; cases hf2
      exact q d H' (sx.trans s') hd
    · rw [g.nofault] at hf; cases hf
  have rz : ∀ (f : Str) (Hx : Hp) (σ : L2.St), Same H Hx → faultC dl dw = some f → tMkO T.C_BadCosts (sp_BadX_init T.C_BadCosts "what") [] (tCons (tC (.str f)) tNil) σ Hx (fun cls d H' => E cls d H') := fun f Hx σ sx hf =>
    ⟨Nat.le_of_ble_eq_true rfl, fun a ha => ⟨a, _, rfl, upd_same, fun d hd ne => ⟨rfl, d, _, upd_same, by rw [upd_ne ne]; exact upd_same, by rw [upd_ne ne] at hd; exact hd, by
      rw [upd_ne ne] at hd
      exact ea _ Hx sx hf d _ (raise_same ha hd) upd_same⟩⟩⟩
  refine ⟨_, _, _, _, rfl, hl, .inr ⟨_, rfl⟩, .inr ⟨_, rfl⟩, ?_⟩
  rw [hl.whole]
  walk_at "r"
  cases ew : Jv.wholeD dl (.int 0) (.int 6) with
  | false =>
    have ef : faultC dl dw = some ("ladder" : Str) := by
      unfold faultC
      cases dl with
      | int l => dsimp only; rw [ew, if_pos rfl]
      | _ => rfl
    walk_at "r"
    exact rz _ _ _ (Same.refl _) ef
  | true =>
  obtain ⟨l, rfl, l0, l6⟩ := Jv.wholeD_int ew
  have fG : ∀ x, faultC (.int l) dw = some x ↔ (if Jv.sidesD (sidesOf (Jv.linesD dw)) = false then some ("sides" : Str) else if allEnt l dw = false then some ("cost" : Str) else none) = some x := fun x => by
    unfold faultC
    dsimp only
    rw [ew, if_neg (by decide)]
  cases hl
  walk_at "r"
  have fw2 : Jv.few2 dw := fun ds e => ⟨(fw ds e).1, fun x hx es he => ((fw ds e).2 x hx es he).1⟩
  refine ⟨_, _, rfl, hw, fw2, fun en H1 s1 => ?_, fun p0 q0 en t H1 s1 ht => ?_⟩
  · walk_at "r"
    refine ⟨_, _, rfl, .non, fun H2 s2 => ?_⟩
    walk_at "r"
    exact rz _ _ _ (s1.trans s2) ((fG _).mpr (by rw [en]; rfl))
  · walk_at "r"
    refine ⟨_, _, rfl, .tup (Jv.sqT_at ht) (.cons (.int _) (.cons (.int _) .nil)), fun H2 s2 => ?_⟩
    have s12 := s1.trans s2
    have ht2 := s2 _ _ ht
    walk_at "r"
    have hso : sidesOf (Jv.linesD dw) = .tuple [.int p0, .int q0] := by rw [en]; rfl
    cases es : Jv.sidesD (.tuple [.int p0, .int q0]) with
    | false =>
      walk_at "r"
      exact rz _ _ _ s12 ((fG _).mpr (by rw [hso, es]; rfl))
    | true =>
    walk_at "r"
    have hrows : ∃ rows, Jv.seqD dw = some rows ∧ rows.all (fun e => (Jv.seqD e).isSome) = true := by
      unfold Jv.linesD at en
      cases er : Jv.seqD dw with
      | none => rw [er] at en; cases en
      | some rows =>
        refine ⟨rows, rfl, ?_⟩
        rw [er] at en; dsimp only at en
        cases hb : rows.all (fun e => (Jv.seqD e).isSome) with
        | true => rfl
        | false => rw [hb, if_neg Bool.false_ne_true] at en; cases en
    obtain ⟨rows, er, hall⟩ := hrows
    obtain ⟨xs, skw, alw⟩ := hw.sk er
    obtain ⟨fr1, fr2⟩ := fw rows er
    refine Jv.lc2D (K := K) (N := []) (i := 2) (a := 4) (b := 5) rfl (skw.same s12) (alw.same s12) .nil (fun e => .bool (entD l e)) (fun e he => ?_) fr1 (fun _ => rfl) (fun _ _ => rfl) (fun _ => rfl) (fun v u d D H3 du hd3 s3 hN hD PP hP => ?_) (fun D ys H3 s3 hD eD dv => ?_)
    · obtain ⟨z, hz⟩ := Option.isSome_iff_exists.mp (List.all_eq_true.mp hall e he)
      exact ⟨z, hz, (fr2 e he z hz).1⟩
    · obtain ⟨e, he, z, hz, hd3⟩ := hd3
      walk_at "r"
      exact ⟨_, _, _, rfl, du, (fr2 e he z hz).2 d hd3, fun H4 s4 => hP _ _ s4 (.bl _)⟩
    · walk_at "r"
      rw [Jv.hide_nil] at dv
      have efl : rows.flatMap (Jv.rowG fun e => .bool (entD l e)) = ((rows.flatMap fun r => (Jv.seqD r).getD []).map (entD l)).map PyData.bool := by
        rw [List.map_map, List.map_flatMap]; rfl
      rw [efl] at dv
      rw [Jv.dv_bools dv] at eD
      refine ⟨D, _, rfl, Jv.sqL_at eD, ?_⟩
      have eae : ((rows.flatMap fun r => (Jv.seqD r).getD []).map (entD l)).all id = allEnt l dw := by
        rw [List.all_map]; unfold allEnt; rw [er]; rfl
      rw [eae]
      walk_at "r"
      have s13 := s12.trans s3
      cases eE : allEnt l dw with
      | false =>
        walk_at "r"
        exact rz _ _ _ s13 ((fG _).mpr (by rw [hso, es, eE]; rfl))
      | true =>
      walk_at "r"
      rcases q with ⟨f, hf, _⟩ | ⟨l', L, p, q', g, qk⟩
      · have := (fG _).mp hf
        rw [hso, es, eE] at this
        cases this
      have el : l = l' := PyData.int.inj g.dl
      subst el
      have epq := g.lines
      rw [en] at epq
      cases epq
      have ha4 := s13 _ _ ha
      refine Jv.r_sfld ?_
      walk_at "r"
      refine ⟨a, _, dx, [], rfl, ha4, O.o_Costs, O.n_Costs_ladder, by decide, ?_⟩
      walk_at "r"
      have hw5 := (hw.same s13).ins (o := .ins T.C_Costs dx (putF "ladder" (.int l) [])) ha4
      have ht5 : upd H3 a (.ins T.C_Costs dx (putF "ladder" (.int l) [])) t = some (.tup [.int p0, .int q0]) := by
        have h4 := s3 _ _ ht2
        exact Jv.kpO h4 fun e => by rw [e, ha4] at h4; cases h4
      have old5 : ∀ b o, b ≠ a → H b = some o → upd H3 a (.ins T.C_Costs dx (putF "ladder" (.int l) [])) b = some o := fun b o nb hb => Jv.kpO (s13 _ _ hb) nb
      have ha5 : upd H3 a (.ins T.C_Costs dx (putF "ladder" (.int l) [])) a = some (.ins T.C_Costs dx [("ladder", .int l)]) := upd_same
      generalize upd H3 a (.ins T.C_Costs dx (putF "ladder" (.int l) [])) = H5 at hw5 ht5 old5 ha5 ⊢
      obtain ⟨ws, skw5, alw5⟩ := hw5.sk er
      obtain ⟨rows', er', prw⟩ := g.dw
      rw [er] at er'
      cases er'
      refine Jv.r_sfld ?_
      walk_at "r"
      have lws := alw5.len
      have lrw := Paired.length prw
      refine Jv.lcS2 (K := K) (N := []) (j := 4) (i := 2) rfl skw5 .nil (L.map rowT) (by rw [List.length_map]; omega) (by omega) (fun i v e D1 H6 hi hv he s6 hN1 hD1 PP hP => ?_) (fun D1 ys H6 s6 hD1 eD1 dv1 _ => ?_)
      · obtain ⟨r, hr, dr⟩ := alw5.at hv
        obtain ⟨line, hline, hLR⟩ := pairAt prw hr
        rw [List.getElem?_map, hline] at he
        obtain rfl := Option.some.inj he
        obtain ⟨es', ers, prl⟩ := hLR
        have dr1 : Jv.Dv K (Jv.hide [D1] H6) v r := by
          have := dr
          rw [← Jv.hide_nil (H := H5)] at this
          exact this.same (Jv.hide_more s6 hD1)
        obtain ⟨us, sku1, alu1⟩ := dr1.sk ers
        have sku := sku1.same Jv.hide_le
        have hrm := List.mem_of_getElem? hr
        have fq := (fr2 r hrm es' ers).1
        have lus := alu1.len
        have lpl := Paired.length prl
        walk_at "r"
        refine Jv.lcS2 (K := K) (N := [D1]) (j := 5) (i := 4) rfl sku hN1 (line.map fun ns => .tuple (ns.map .int)) (by rw [List.length_map]; omega) (by omega) (fun i2 u e2 D2 H7 hi2 hu he2 s7 hN2 hD2 PP2 hP2 => ?_) (fun D2 ys2 H7 s7 hD2 eD2 dv2 _ => ?_)
        · obtain ⟨e0, he0, du0⟩ := alu1.at hu
          obtain ⟨ns, hns, hER⟩ := pairAt prl he0
          rw [List.getElem?_map, hns] at he2
          obtain rfl := Option.some.inj he2
          have du1 := du0.same (Jv.hide_more s7 hD2)
          walk_at "r"
          cases du1 with
          | lst h q =>
            cases hER
            exact Jv.r_tupOfL (Jv.sqL_at (Jv.hide_some h).2) fun t2 ht2 => hP2 _ _ (Jv.same_new ht2) (Jv.dv_new ht2 hN2 q)
          | tup h q =>
            cases hER
            exact Jv.r_tupOfT (Jv.Same.sqT Jv.hide_le h) (hP2 _ _ (Same.refl _) (.tup h q))
          | _ => cases hER
        · walk_at "r"
          refine ⟨D2, _, rfl, .inl ⟨Jv.sqL_at eD2, fun t2 ht2 => ?_⟩⟩
          exact hP _ _ (s7.trans (Jv.same_new ht2)) (Jv.dv_new ht2 (hN1.same s7) dv2)
      · walk_at "r"
        refine ⟨D1, _, rfl, .inl ⟨Jv.sqL_at eD1, fun t2 ht2 => ?_⟩⟩
        rw [Jv.hide_nil] at dv1
        have hW : Jv.Dv K (upd H6 t2 (.tup ys)) (.ref t2) (linT L) := .tup (Jv.sqT_at upd_same) (dv1.same (Jv.same_new ht2))
        have s6n := s6.trans (Jv.same_new (u := .tup ys) ht2)
        have ha7 := s6n _ _ ha5
        have ht7 := s6n _ _ ht5
        have old7 : ∀ b o, b ≠ a → H b = some o → upd H6 t2 (.tup ys) b = some o := fun b o nb hb => s6n _ _ (old5 b o nb hb)
        generalize upd H6 t2 (.tup ys) = H7 at hW ha7 ht7 old7 ⊢
        walk_at "r"
        refine ⟨a, _, dx, _, rfl, ha7, O.o_Costs, O.n_Costs_lines, Nat.le_of_ble_eq_true rfl, ?_⟩
        walk_at "r"
        have hW8 := hW.ins (o := .ins T.C_Costs dx (putF "lines" (.ref t2) [("ladder", .int l)])) ha7
        have ht8 : upd H7 a (.ins T.C_Costs dx (putF "lines" (.ref t2) [("ladder", .int l)])) t = some (.tup [.int p0, .int q0]) := Jv.kpO ht7 fun e => by rw [e, ha7] at ht7; cases ht7
        have old8 : ∀ b o, b ≠ a → H b = some o → upd H7 a (.ins T.C_Costs dx (putF "lines" (.ref t2) [("ladder", .int l)])) b = some o := fun b o nb hb => Jv.kpO (old7 b o nb hb) nb
        have ha8 : upd H7 a (.ins T.C_Costs dx (putF "lines" (.ref t2) [("ladder", .int l)])) a = some (.ins T.C_Costs dx [("ladder", .int l), ("lines", .ref t2)]) := upd_same
        generalize upd H7 a (.ins T.C_Costs dx (putF "lines" (.ref t2) [("ladder", .int l)])) = H8 at hW8 ht8 old8 ha8 ⊢
        show sFld K (tVar 0) (tVar 3) "sides" _ _ _
        refine Jv.r_sfld ?_
        walk_at "r"
        refine ⟨a, _, dx, _, rfl, ha8, O.o_Costs, O.n_Costs_sides, Nat.le_of_ble_eq_true rfl, ?_⟩
        refine qk _ (fun b o nb hb => Jv.kpO (old8 b o nb hb) nb) ⟨dx, _, _, upd_same, hW8.ins ha8, .tup (Jv.sqT_at (Jv.kpO ht8 fun e => by rw [e, ha8] at ht8; cases ht8)) (.cons (.int _) (.cons (.int _) .nil))⟩
end
end K49

namespace K49
open PySem PySem.Spec PyProof.Rows L2
/-! ### lots, orders, couples, sides: of data -/
def few60 (d : PyData) : Prop := ∀ ds, Jv.seqD d = some ds → ds.length ≤ 60
def intsD : List PyData → Option (List Int)
  | [] => some []
  | .int i :: r => (intsD r).map (i :: ·)
  | _ :: _ => none
theorem intsD_map : ∀ ns : List Int, intsD (ns.map .int) = some ns
  | [] => rfl
  | a :: r => by simp [intsD, intsD_map r]
theorem intsD_of : ∀ {ds : List PyData} {ns : List Int}, intsD ds = some ns → ds = ns.map .int
  | [], ns, h => by cases h; rfl
  | d :: r, ns, h => by
    cases d with
    | int i =>
      cases e : intsD r with
      | none => simp [intsD, e] at h
      | some m => simp [intsD, e] at h; subst h; rw [intsD_of e]; rfl
    | _ => cases h
def kindsD (k : Int) (d : PyData) : Bool := match Jv.seqD d with
  | some ds => ds.all fun e => Jv.wholeD e (.int 0) (.int (k - 1))
  | none => false
def lotD (k : Int) (d : PyData) : Bool := match Jv.seqD d with
  | some ds => match intsD ds with
    | some ns => decide (Jv.lotP k ns)
    | none => false
  | none => false
def orderD (k : Int) (d : PyData) : Bool := match Jv.seqD d with
  | some ds => match intsD ds with
    | some ns => decide (Jv.orderP k ns)
    | none => false
  | none => false
def coupleD (p q : Int) (d : PyData) : Bool := match Jv.seqD d with
  | some [a, b] => Jv.wholeD a (.int 0) (.int (p - 1)) && Jv.wholeD b (.int 0) (.int (q - 1))
  | _ => false
theorem kinds_true {k : Int} {d : PyData} (h : kindsD k d = true) : ∃ ns, Jv.seqD d = some (ns.map .int) ∧ Jv.inK k ns := by
  unfold kindsD at h
  cases e : Jv.seqD d with
  | none => rw [e] at h; cases h
  | some ds =>
    rw [e] at h
    have key : ∀ ds : List PyData, (ds.all fun e => Jv.wholeD e (.int 0) (.int (k - 1))) = true → ∃ ns, ds = ns.map .int ∧ Jv.inK k ns := by
      intro ds
      induction ds with
      | nil => intro _; exact ⟨[], rfl, fun _ h => by cases h⟩
      | cons a r ih =>
        intro h
        rw [List.all_cons, Bool.and_eq_true] at h
        obtain ⟨i, rfl, h1, h2⟩ := Jv.wholeD_int h.1
        obtain ⟨ns, rfl, h3⟩ := ih h.2
        refine ⟨i :: ns, rfl, fun n hn => ?_⟩
        rcases List.mem_cons.mp hn with rfl | hn
        · exact ⟨h1, h2⟩
        · exact h3 n hn
    obtain ⟨ns, rfl, h3⟩ := key ds h
    exact ⟨ns, rfl, h3⟩
theorem kinds_of {k : Int} {d : PyData} {ns : List Int} (e : Jv.seqD d = some (ns.map .int)) (h : Jv.inK k ns) : kindsD k d = true := by
  unfold kindsD; rw [e]
  show ((ns.map PyData.int).all _) = true
  rw [List.all_map, List.all_eq_true]
  intro n hn
  obtain ⟨a, b⟩ := h n hn
  show (decide (0 ≤ n) && decide (n ≤ k - 1)) = true
  rw [decide_eq_true a, decide_eq_true b]; rfl
theorem lotD_of {k : Int} {d : PyData} {ns : List Int} (e : Jv.seqD d = some (ns.map .int)) : lotD k d = decide (Jv.lotP k ns) := by
  unfold lotD; rw [e]; dsimp only; rw [intsD_map]
theorem orderD_of {k : Int} {d : PyData} {ns : List Int} (e : Jv.seqD d = some (ns.map .int)) : orderD k d = decide (Jv.orderP k ns) := by
  unfold orderD; rw [e]; dsimp only; rw [intsD_map]
theorem lotD_false {k : Int} {d : PyData} (h : kindsD k d = false) : lotD k d = false := by
  cases e : Jv.seqD d with
  | none => unfold lotD; rw [e]
  | some ds =>
    cases e2 : intsD ds with
    | none => unfold lotD; rw [e]; dsimp only; rw [e2]
    | some ns =>
      obtain rfl := intsD_of e2
      rw [lotD_of e, decide_eq_false]
      rintro ⟨h1, _⟩
      rw [kinds_of e h1] at h; cases h
theorem orderD_false {k : Int} {d : PyData} (h : kindsD k d = false) : orderD k d = false := by
  cases e : Jv.seqD d with
  | none => unfold orderD; rw [e]
  | some ds =>
    cases e2 : intsD ds with
    | none => unfold orderD; rw [e]; dsimp only; rw [e2]
    | some ns =>
      obtain rfl := intsD_of e2
      rw [orderD_of e, decide_eq_false]
      rintro ⟨h1, _⟩
      rw [kinds_of e h1] at h; cases h
def sp_are_kinds (K : PySem.W.Frag) : Sp := fun vs H Q _ => ∃ x d k, vs = [x, .int k] ∧ Jv.Dv K H x d ∧ few60 d ∧ ∀ H', Same H H' → Q (.bl (kindsD k d)) H'
def sp_is_lot (K : PySem.W.Frag) : Sp := fun vs H Q _ => ∃ x d k, vs = [x, .int k] ∧ Jv.Dv K H x d ∧ few60 d ∧ ∀ H', Same H H' → Q (.bl (lotD k d)) H'
def sp_is_order (K : PySem.W.Frag) : Sp := fun vs H Q _ => ∃ x d k, vs = [x, .int k] ∧ Jv.Dv K H x d ∧ few60 d ∧ (0 ≤ k ∧ k ≤ 60) ∧ ∀ H', Same H H' → Q (.bl (orderD k d)) H'
def sp_check_lot (K : PySem.W.Frag) (C : Addr) : Sp := fun vs H Q E => ∃ x d k v, vs = [x, .int k, v] ∧ Jv.Dv K H x d ∧ few60 d ∧
  ((∃ ns, Jv.seqD d = some (ns.map .int) ∧ Jv.lotP k ns ∧ ∀ t H', Same H H' → SqT K H' t (ns.map V.int) → Q (.ref t) H') ∨ (lotD k d = false ∧ ∀ e H', Same H H' → H' e = some (.xd [("side", v)]) → E (.ref C) (some e) H'))
def sp_check_order (K : PySem.W.Frag) (C : Addr) : Sp := fun vs H Q E => ∃ x d k v, vs = [x, .int k, v] ∧ Jv.Dv K H x d ∧ few60 d ∧ (0 ≤ k ∧ k ≤ 60) ∧
  ((∃ ns, Jv.seqD d = some (ns.map .int) ∧ Jv.orderP k ns ∧ ∀ t H', Same H H' → SqT K H' t (ns.map V.int) → Q (.ref t) H') ∨ (orderD k d = false ∧ ∀ e H', Same H H' → H' e = some (.xd [("side", v)]) → E (.ref C) (some e) H'))
def sp_check_side (K : PySem.W.Frag) (C : Addr) : Sp := fun vs H Q E => ∃ x d, vs = [x] ∧ Jv.Dv K H x d ∧ (Jv.wholeD d (.int 0) (.int 1) = true → Q x H) ∧ (Jv.wholeD d (.int 0) (.int 1) = false → E (.ref C) none H)
def sp_check_couple (K : PySem.W.Frag) (C : Addr) : Sp := fun vs H Q E => ∃ sd p q x d, vs = [sd, x] ∧ Jv.Sk K H sd [.int p, .int q] ∧ Jv.Dv K H x d ∧
  ((∃ e f, Jv.seqD d = some [.int e, .int f] ∧ (0 ≤ e ∧ e < p) ∧ (0 ≤ f ∧ f < q) ∧ ∀ t H', Same H H' → SqT K H' t [.int e, .int f] → Q (.ref t) H') ∨ (coupleD p q d = false ∧ ∀ H', Same H H' → E (.ref C) none H'))
def sp_raised_end : Sp := fun vs H Q _ => ∃ e b : Int, vs = [.int e, .int b] ∧ Q (.int (if e < 0 then e - b else e + b)) H
section
variable {P : Program} {w : World} {K : PySem.W.Frag} {mg : Str → Option Value} {base : Heap}
theorem ok_are_kinds (T : Tx) (O : Ok K mg T) : FnOk P w K mg base CX0 2 T.f_are_kinds T.d_are_kinds ["thing", "kinds"] (sp_are_kinds K) := by
  refine O.F_are_kinds.ok sc_are_kinds (fun vs H Q E h => by obtain ⟨_, _, _, rfl, _⟩ := h; rfl) (fun cdv A outer s H vs Q E hr h => ?_)
  obtain ⟨x, d, k, rfl, hx, fw, q⟩ := h
  refine ⟨_, (pss_one (ps_ret (pe_and (pe_call (ok_is_sequence T O) (hr.mono (by decide)) (by rfl) O.m_is_sequence O.F_is_sequence.kp O.b_is_sequence .nil pass0 (pa_cons (pv 0) pa_nil)) (pe_one (pe_callB (r := rAll K) (cr_all rfl) (by rfl) O.z_all (by decide +kernel) (pa_cons (pe_lc (own := [("kind", 2)]) (by rfl) sc_are_kinds.nd (Jv.piOr (show PI _ _ _ (iList K _) from pi_list (pv 0)) (show PI _ _ _ (iTup K _) from pi_tup (pv 0))) (blkOk_by (own := [("kind", 2)]) (N := ["thing", "kinds", "kind"]) (sc := defScope s_are_kinds) (scope := ({ kind := .function, names := [(".0", .local), ("kind", .local), ("is_whole", .globalImplicit), ("kinds", .free)], isGenerator := false, isCoroutine := false } : Scope)) (by decide +kernel)) (fun _ _ _ _ _ => (pg_name (i := 2) sc_are_kinds.nd rfl (Or.inl rfl))) (fun _ _ _ _ _ => pts_nil) (fun _ _ _ _ _ => (pe_call (ok_is_whole T O) (hr.mono (by decide)) (by rfl) O.m_is_whole O.F_is_whole.kp O.b_is_whole .nil pass0 (pa_cons (pv 2) (pa_cons pe_int (pa_cons (pe_op op_sub (pv 1) pe_int) pa_nil)))))) pa_nil)))))), ?_⟩
  walk_at "r"
  refine ⟨_, _, rfl, hx, fun H1 s1 => ?_⟩
  walk_at "r"
  cases e : Jv.seqD d with
  | none =>
    have e2 : kindsD k d = false := by unfold kindsD; rw [e]
    rw [e2] at q
    walk_at "r"; exact q _ s1
  | some ds =>
    have e2 : kindsD k d = ds.all fun e => Jv.wholeD e (.int 0) (.int (k - 1)) := by unfold kindsD; rw [e]
    rw [e2] at q
    have f60 := fw ds e
    obtain ⟨xs, sq0, al⟩ := hx.sk e
    have sq := sq0.same s1
    have al1 := al.same s1
    have ll := al.len
    walk_at "r"
    refine Jv.lcS2 (K := K) (N := []) (j := 2) (i := 0) rfl sq .nil (ds.map fun e => .bool (Jv.wholeD e (.int 0) (.int (k - 1)))) (by rw [List.length_map]; omega) (by omega) (fun i v e' D H2 hi hv he s2 hN hD P hP => ?_) (fun D ys H2 s2 hD eD dv _ => ?_)
    · walk_at "r"
      obtain ⟨e0, h0e, hv2⟩ := al1.at hv
      rw [List.getElem?_map, h0e] at he
      obtain rfl := Option.some.inj he
      refine ⟨_, _, _, _, rfl, hv2.same s2, .inr ⟨_, rfl⟩, .inr ⟨_, rfl⟩, ?_⟩
      rw [hv2.whole]
      exact hP _ _ (Same.refl _) (.bl _)
    · walk_at "r"
      rw [Jv.hide_nil, show (ds.map fun e => PyData.bool (Jv.wholeD e (.int 0) (.int (k - 1)))) = (ds.map fun e => Jv.wholeD e (.int 0) (.int (k - 1))).map PyData.bool by rw [List.map_map]; rfl] at dv
      rw [Jv.dv_bools dv] at eD
      refine ⟨D, _, rfl, Jv.sqL_at eD, ?_⟩
      rw [List.all_map]
      exact q _ (s1.trans s2)
theorem ok_is_order (T : Tx) (O : Ok K mg T) : FnOk P w K mg base CX0 3 T.f_is_order T.d_is_order ["thing", "many"] (sp_is_order K) := by
  refine O.F_is_order.ok sc_is_order (fun vs H Q E h => by obtain ⟨_, _, _, rfl, _⟩ := h; rfl) (fun cdv A outer s H vs Q E hr h => ?_)
  obtain ⟨x, d, k, rfl, hx, fw, ⟨k0, k1⟩, q⟩ := h
  refine ⟨_, (pss_one (ps_ret (pe_and (pe_call (ok_are_kinds T O) (hr.mono (by decide)) (by rfl) O.m_are_kinds O.F_are_kinds.kp O.b_are_kinds .nil pass0 (pa_cons (pv 0) (pa_cons (pv 1) pa_nil))) (pe_one (pe_cmpR (r := rEqD K) (op_eqD hr.units) (pe_callB (r := Jv.rSortIT K) Jv.cr_sortIT (by rfl) O.z_sorted (by decide +kernel) (pa_cons (pv 0) pa_nil)) (pe_listRg rfl (by rfl) O.z_list (prg_1 (by rfl) O.z_range (pv 1))) (nomark _)))))), ?_⟩
  walk_at "r"
  refine ⟨_, _, _, rfl, hx, fw, fun H1 s1 => ?_⟩
  walk_at "r"
  cases ek : kindsD k d with
  | false =>
    rw [orderD_false ek] at q
    walk_at "r"; exact q _ s1
  | true =>
    obtain ⟨ns, e, hk⟩ := kinds_true ek
    obtain ⟨xs, sq0, al⟩ := hx.sk e
    obtain rfl := Jv.dv_intsV al
    obtain ⟨a, rfl, hq⟩ := sq0.same s1
    rw [orderD_of e] at q
    walk_at "r"
    refine ⟨a, ns, rfl, hq, fun ms r pm so hr => ?_⟩
    refine ⟨_, rfl, k, rfl, RgOk.of_le (by omega) (by omega) (by omega) (by omega), fun l hl => ?_⟩
    walk_at "r"
    rw [Jv.rgV0]
    refine ⟨_, _, Jv.dpL (by walk_at "sq"), Jv.dpL (by walk_at "sq"), Jv.shapedL _, Jv.shapedL _, ?_⟩
    rw [Jv.eqvL]
    have e3 : decide (Jv.orderP k ns) = decide (ms = (List.range k.toNat).map fun (i : Nat) => (i : Int)) := by
      have : Jv.orderP k ns ↔ ms = (List.range k.toNat).map fun (i : Nat) => (i : Int) :=
        ⟨fun h => Jv.sorted_perm so (Jv.range_sorted _) (pm.trans h.2), fun h => ⟨hk, by rw [← h]; exact pm.symm⟩⟩
      simp only [this]
    rw [e3] at q
    exact q _ ((s1.trans (Jv.same_new hr)).trans (Jv.same_new hl))
theorem ok_BadLotu_initu (T : Tx) (O : Ok K mg T) : FnOk P w K mg base CX0 1 T.f_BadLotu_initu T.d_BadLotu_initu ["self", "side"] (sp_BadX_init T.C_BadLot "side") := by
  refine O.F_BadLotu_initu.ok sc_BadLotu_initu (fun vs H Q E h => by obtain ⟨_, _, rfl, _⟩ := h; rfl) (fun cdv A outer s H vs Q E hr h => ?_)
  obtain ⟨a, v, rfl, ha, q⟩ := h
  refine ⟨_, (pss_one (ps_ost (pv 0) (pv 1))), ?_⟩
  exact ⟨_, rfl, _, rfl, a, T.C_BadLot, rfl, O.x_BadLot.o, O.n_BadLot_side, .inl ⟨ha, fun d hd ne => q d hd ne⟩⟩
theorem ok_check_side_order (T : Tx) (O : Ok K mg T) : FnOk P w K mg base (L2.CX P w) 4 T.f_check_side_order T.d_check_side_order ["order", "kinds", "side"] (sp_check_order K T.C_BadLot) := by
  refine O.F_check_side_order.okX sc_check_side_order (fun vs H Q E h => by obtain ⟨_, _, _, _, rfl, _⟩ := h; rfl) (fun cdv A outer s H vs Q E hr h => ?_)
  obtain ⟨x, d, k, v, rfl, hx, fw, kb, q⟩ := h
  refine ⟨_, (pss_cons (ps_if (pt_not (pt_val (pe_call (ok_is_order T O) (hr.mono (by decide)) (by rfl) O.m_is_order O.F_is_order.kp O.b_is_order .nil pass0 (pa_cons (pv 0) (pa_cons (pv 1) pa_nil))))) (pss_one (ps_raise rfl (takes_of rfl rfl rfl rfl) (pmk_oex O.x_BadLot.o O.x_BadLot.n O.x_BadLot.y (ok_BadLotu_initu T O) (hr.mono (by decide)) O.b_BadLotu_initu .nil pass0 (by rfl) O.m_BadLot (pa_cons (pv 2) pa_nil)))) pss_nil)
  (pss_one (ps_ret (pe_callTy (r := Jv.rTupOf K) call_tuple_of (by rfl) O.z_tuple (by decide +kernel) (pa_cons (pv 0) pa_nil))))), ?_⟩
  walk_at "r"
  refine ⟨_, _, _, rfl, hx, fw, kb, fun H1 s1 => ?_⟩
  walk_at "r"
  rcases q with ⟨ns, e, hp, q⟩ | ⟨e, q⟩
  · rw [orderD_of e, decide_eq_true hp]
    walk_at "r"
    obtain ⟨xs, sq0, al⟩ := hx.sk e
    obtain rfl := Jv.dv_intsV al
    exact (sq0.same s1).tup fun t H2 s2 ht => q t _ (s1.trans s2) ht
  · rw [e]
    walk_at "r"
    refine ⟨_, rfl, Nat.le_of_ble_eq_true rfl, fun a ha => ⟨a, v, rfl, upd_same, fun d hd ne => ⟨rfl, d, _, upd_same, by rw [upd_ne ne]; exact upd_same, by rw [upd_ne ne] at hd; exact hd, ?_⟩⟩⟩
    rw [upd_ne ne] at hd
    exact q d _ (s1.trans (raise_same ha hd)) upd_same
theorem ok_check_side (T : Tx) (O : Ok K mg T) : FnOk P w K mg base (L2.CX P w) 2 T.f_check_side T.d_check_side ["side"] (sp_check_side K T.C_BadSide) := by
  refine O.F_check_side.okX sc_check_side (fun vs H Q E h => by obtain ⟨_, _, rfl, _⟩ := h; rfl) (fun cdv A outer s H vs Q E hr h => ?_)
  obtain ⟨x, d, rfl, hx, q1, q2⟩ := h
  refine ⟨_, (pss_cons (ps_if (pt_not (pt_val (pe_call (ok_is_whole T O) (hr.mono (by decide)) (by rfl) O.m_is_whole O.F_is_whole.kp O.b_is_whole .nil pass0 (pa_cons (pv 0) (pa_cons (pe_glob (v := .int (0)) (by rfl) O.c_EAST ⟨_, rfl⟩) (pa_cons (pe_glob (v := .int (1)) (by rfl) O.c_WEST ⟨_, rfl⟩) pa_nil)))))) (pss_one (ps_raise rfl (takes_of rfl rfl rfl rfl) (Jv.pmk_own0 PySem.F.excBase_ValueError O.e_BadSide.x O.m_BadSide O.e_BadSide.k (O.e_BadSide.raises) (by rfl)))) pss_nil)
  (pss_one (ps_ret (pv 0)))), ?_⟩
  walk_at "r"
  refine ⟨_, _, _, _, rfl, hx, .inr ⟨_, rfl⟩, .inr ⟨_, rfl⟩, ?_⟩
  rw [hx.whole]
  walk_at "r"
  cases e : Jv.wholeD d (.int 0) (.int 1) with
  | true => walk_at "r"; exact q1 e
  | false => walk_at "r"; exact q2 e
end
end K49

namespace K49
open PySem PySem.Spec PyProof.Rows L2
/-! ### goals made of goals: what they are -/
def lineT (line : List (List Int)) : PyData := .tuple (line.map fun ns => .tuple (ns.map .int))
def wantT (L : List (List (List Int))) : PyData := .tuple (L.map lineT)
theorem want_eq {l : Int} {lls : List (List (List Int))} : wantD l lls = wantT (lls.map fun line => line.map (neatI l)) := by
  unfold wantD wantT
  rw [List.map_map]
  congr 1
  refine List.map_congr_left fun line _ => ?_
  show lineD l line = lineT (line.map (neatI l))
  unfold lineD lineT
  rw [List.map_map]; rfl
theorem mem_neat {l n : Int} {ns : List Int} : n ∈ neatI l ns ↔ (-l ≤ n ∧ n ≤ l) ∧ n ∈ ns := by
  unfold neatI
  rw [List.mem_filter, decide_eq_true_iff, List.mem_map]
  refine and_congr_left fun _ => ⟨?_, fun h => ⟨(n + l).toNat, by rw [List.mem_range]; omega, by omega⟩⟩
  rintro ⟨i, hi, rfl⟩
  rw [List.mem_range] at hi
  omega
theorem neat_sorted {l : Int} {ns : List Int} : (neatI l ns).Pairwise (· < ·) := by
  unfold neatI
  refine List.Pairwise.filter _ ?_
  rw [List.pairwise_map]
  exact List.pairwise_lt_range.imp fun h => by omega
theorem neat_len {l : Int} {ns : List Int} (h : l ≤ 7) : (neatI l ns).length ≤ 15 := by
  unfold neatI
  refine Nat.le_trans (List.length_filter_le _ _) ?_
  rw [List.length_map, List.length_range]; omega
theorem neat_of {l : Int} {ns : List Int} (h : ∀ n ∈ ns, -l ≤ n ∧ n ≤ l) (hs : ns.Pairwise (· < ·)) : neatI l ns = ns :=
  Jv.sorted_ext neat_sorted hs fun n => by rw [mem_neat]; exact ⟨fun m => m.2, fun m => ⟨h n m, m⟩⟩
/-- neat lines of a shape -/
structure Wd (l : Int) (L : List (List (List Int))) (p q : Nat) : Prop where
  l0 : 0 ≤ l
  l6 : l ≤ 6
  hp : L.length = p
  hq : ∀ line ∈ L, line.length = q
  p0 : 1 ≤ p
  p6 : p ≤ 6
  q0 : 1 ≤ q
  q6 : q ≤ 6
  pq : p * q ≤ 12
  ends : ∀ line ∈ L, ∀ ns ∈ line, ns ≠ [] ∧ neatI l ns = ns
theorem Wd.range {l : Int} {L : List (List (List Int))} {p q : Nat} (w : Wd l L p q) {line : List (List Int)} {ns : List Int} (h1 : line ∈ L) (h2 : ns ∈ line) : ns.length ≤ 60 ∧ ∀ n ∈ ns, -l ≤ n ∧ n ≤ l := by
  obtain ⟨_, e⟩ := w.ends line h1 ns h2
  refine ⟨?_, fun n hn => ?_⟩
  · rw [← e]; have := neat_len (l := l) (ns := ns) (by have := w.l6; omega); omega
  · rw [← e] at hn; exact (mem_neat.mp hn).1
theorem Wd.same {l : Int} {L : List (List (List Int))} {p q : Nat} (w : Wd l L p q) : (L.map fun line => line.map (neatI l)) = L := by
  have : ∀ line ∈ L, line.map (neatI l) = line := fun line h => by
    have : ∀ ns ∈ line, neatI l ns = ns := fun ns h2 => (w.ends line h ns h2).2
    rw [List.map_congr_left (g := id) this, List.map_id]
  rw [List.map_congr_left (g := id) this, List.map_id]
/-- the lines as lists or tuples -/
theorem pair_map {α β : Type} {f : β → α} {F : α → β → Prop} : ∀ {ys : List β}, (∀ y ∈ ys, F (f y) y) → Paired F (ys.map f) ys
  | [], _ => .nil
  | a :: r, h => .cons (h a List.mem_cons_self) (pair_map fun y m => h y (List.mem_cons_of_mem _ m))
theorem linesT {L : List (List (List Int))} : LinesR (wantT L) L := ⟨_, rfl, pair_map fun line _ => ⟨_, rfl, pair_map fun ns _ => rfl⟩⟩
def lineL (line : List (List Int)) : PyData := .list (line.map fun ns => .tuple (ns.map .int))
def wantL (L : List (List (List Int))) : PyData := .list (L.map lineL)
theorem linesL {L : List (List (List Int))} : LinesR (wantL L) L := ⟨_, rfl, pair_map fun line _ => ⟨_, rfl, pair_map fun ns _ => rfl⟩⟩
def wantLT (L : List (List (List Int))) : PyData := .list (L.map lineT)
theorem linesLT {L : List (List (List Int))} : LinesR (wantLT L) L := ⟨_, rfl, pair_map fun line _ => ⟨_, rfl, pair_map fun ns _ => rfl⟩⟩
def wantLL (L : List (List (List Int))) : PyData := .list (L.map fun line => .list (line.map fun ns => .list (ns.map .int)))
theorem linesLL {L : List (List (List Int))} : LinesR (wantLL L) L := ⟨_, rfl, pair_map fun line _ => ⟨_, rfl, pair_map fun ns _ => rfl⟩⟩
theorem Wd.good {l : Int} {L : List (List (List Int))} {p q : Nat} {dw dk : PyData} {k0 k1 : Bool} (w : Wd l L p q) (h : LinesR dw L) (hk : Jv.seqD dk = some [.bool k0, .bool k1]) : GoodG (.int l) dw dk l L k0 k1 p q :=
  ⟨rfl, w.l0, w.l6, h, w.hp, w.hq, w.p0, w.p6, w.q0, w.q6, w.pq, fun line h1 ns h2 => ⟨(w.ends line h1 ns h2).1, w.range h1 h2⟩, hk⟩
theorem few_lines {dw : PyData} {lls : List (List (List Int))} (h : LinesR dw lls) (h1 : lls.length ≤ 100) (h2 : ∀ line ∈ lls, line.length ≤ 100) (h3 : ∀ line ∈ lls, ∀ ns ∈ line, ns.length ≤ 100) : Jv.few3 dw := by
  obtain ⟨rows, e, pr⟩ := h
  intro ds e1
  rw [e] at e1; cases e1
  refine ⟨by rw [Paired.length pr]; exact h1, fun r hr => ?_⟩
  obtain ⟨line, hl, es, e2, pr2⟩ := memL pr hr
  intro ds e3
  rw [e2] at e3; cases e3
  refine ⟨by rw [Paired.length pr2]; exact h2 line hl, fun x hx => ?_⟩
  obtain ⟨ns, hn, e4⟩ := memL pr2 hx
  intro ds e5
  rw [show Jv.seqD x = some (ns.map .int) from e4] at e5; cases e5
  rw [List.length_map]; exact h3 line hl ns hn
theorem GoodG.few {dl dw dk : PyData} {l : Int} {lls : List (List (List Int))} {k0 k1 : Bool} {p q : Nat} (g : GoodG dl dw dk l lls k0 k1 p q) : Jv.few3 dw :=
  few_lines g.dw (by rw [g.hp]; have := g.p6; omega) (fun line h => by rw [g.hq line h]; have := g.q6; omega) fun line h ns h2 => by have := (g.ends line h ns h2).2.1; omega
section
variable {K : PySem.W.Frag} {H H' H1 : Hp} {C CB a : Addr} {l : Int} {W : PyData} {k0 k1 : Bool} {p q : Int}
theorem GAt.same (h : GAt K H C a l W k0 k1 p q) (s : Same H H') : GAt K H' C a l W k0 k1 p q := by
  obtain ⟨dx, w, k, t, h1, h2, h3, h4⟩ := h
  exact ⟨dx, w, k, t, s _ _ h1, h2.same s, h3.same s, h4.same s⟩
theorem make_same {x dx : Addr} {o u : HO} (hx : H x = none) (hd : H dx = none) (ne : dx ≠ x) : Same H (upd (upd H dx o) x u) :=
  (Jv.same_new hd).trans (Jv.same_new (by rw [upd_ne ne.symm]; exact hx))
theorem mk_good {Q : VK} {E : XK} {xl xw xk : V} {dl dw dk : PyData} {lls : List (List (List Int))} {p q : Nat} (hl : Jv.Dv K H1 xl dl) (hw : Jv.Dv K H1 xw dw) (hk : Jv.Dv K H1 xk dk) (g : GoodG dl dw dk l lls k0 k1 p q)
    (k : ∀ r H', Same H1 H' → H1 r = none → GAt K H' C r l (wantD l lls) k0 k1 p q → Q (.ref r) H') :
    ∀ x dx, H1 x = none → H1 dx = none → dx ≠ x → sp_Goals_init K C CB [.ref x, xl, xw, xk] (upd (upd H1 dx (.own x)) x (.ins C dx [])) (fun v H2 => v = .non ∧ Q (.ref x) H2) E := fun x dx hx hd ne => by
  have s := make_same (o := .own x) (u := .ins C dx []) hx hd ne
  refine ⟨x, dx, xl, dl, xw, dw, xk, dk, rfl, upd_same, hl.same s, hw.same s, g.few, hk.same s, .inr ⟨l, lls, k0, k1, p, q, g, fun H' old ga => ⟨rfl, k x H' (fun b o hb => ?_) hx ga⟩⟩⟩
  exact old b o (ne_of_none hb hx) (s b o hb)
theorem mk_bad {Q : VK} {E : XK} {xl xw xk : V} {dl dw dk : PyData} {f : Str} (hl : Jv.Dv K H1 xl dl) (hw : Jv.Dv K H1 xw dw) (fw : Jv.few3 dw) (hk : Jv.Dv K H1 xk dk) (hf : faultG dl dw dk = some f)
    (k : ∀ d H', Same H1 H' → H' d = some (.xd [("what", .str f)]) → E (.ref CB) (some d) H') :
    ∀ x dx, H1 x = none → H1 dx = none → dx ≠ x → sp_Goals_init K C CB [.ref x, xl, xw, xk] (upd (upd H1 dx (.own x)) x (.ins C dx [])) (fun v H2 => v = .non ∧ Q (.ref x) H2) E := fun x dx hx hd ne => by
  have s := make_same (o := .own x) (u := .ins C dx []) hx hd ne
  exact ⟨x, dx, xl, dl, xw, dw, xk, dk, rfl, upd_same, hl.same s, hw.same s, fw, hk.same s, .inl ⟨f, hf, fun d H' s' hd' => k d H' (s.trans s') hd'⟩⟩
end
end K49

namespace K49
open PySem PySem.Spec PyProof.Rows L2
/-! ### costs made of costs -/
def rowL (L : List (List (List Int))) (n1 : List Int) : List (List (List Int)) := n1.map fun e => (L[e.toNat]?).getD []
def colL (L : List (List (List Int))) (n2 : List Int) : List (List (List Int)) := L.map fun line => n2.map fun w => (line[w.toNat]?).getD []
def cutC (m : Nat) (L : List (List (List Int))) : List (List (List Int)) := L.map fun line => line.map fun ns => ns.take m
def addC (b : Int) (L : List (List (List Int))) : List (List (List Int)) := L.map fun line => line.map fun ns => ns.map (· + b)
def rowTL (line : List (List Int)) : PyData := .list (line.map fun ns => .tuple (ns.map .int))
def linTL (L : List (List (List Int))) : PyData := .list (L.map rowTL)
def linLT (L : List (List (List Int))) : PyData := .list (L.map rowT)
def linLL (L : List (List (List Int))) : PyData := .list (L.map fun line => .list (line.map fun ns => .list (ns.map .int)))
theorem linesR_T {L : List (List (List Int))} : LinesR (linT L) L := ⟨_, rfl, pair_map fun line _ => ⟨_, rfl, pair_map fun ns _ => rfl⟩⟩
theorem linesR_TL {L : List (List (List Int))} : LinesR (linTL L) L := ⟨_, rfl, pair_map fun line _ => ⟨_, rfl, pair_map fun ns _ => rfl⟩⟩
theorem linesR_LT {L : List (List (List Int))} : LinesR (linLT L) L := ⟨_, rfl, pair_map fun line _ => ⟨_, rfl, pair_map fun ns _ => rfl⟩⟩
theorem linesR_LL {L : List (List (List Int))} : LinesR (linLL L) L := ⟨_, rfl, pair_map fun line _ => ⟨_, rfl, pair_map fun ns _ => rfl⟩⟩
theorem _root_.Jv.r_makeX {C : Addr} {sp : Sp} {dvs : List V} {E : L2.St → XK} {t : TA} {σ : L2.St} {H : Hp} {Q : VK} (h : t σ H fun vs H1 => ∀ x dx, H1 x = none → H1 dx = none → dx ≠ x →
  sp (.ref x :: (vs ++ dvs)) (upd (upd H1 dx (.own x)) x (.ins C dx [])) (fun v H2 => v = .non ∧ Q (.ref x) H2) (E σ)) : Jv.tMakeX C sp dvs E t σ H Q := h
theorem raiseC {C : Addr} {f : Str} {E : XK} {σ : L2.St} {H : Hp} (k : ∀ d H', Same H H' → H' d = some (.xd [("what", .str f)]) → E (.ref C) (some d) H') : tMkO C (sp_BadX_init C "what") [] (tCons (tC (.str f)) tNil) σ H (fun cls d H' => E cls d H') :=
  ⟨Nat.le_of_ble_eq_true rfl, fun a ha => ⟨a, _, rfl, upd_same, fun d hd ne => ⟨rfl, d, _, upd_same, by rw [upd_ne ne]; exact upd_same, by rw [upd_ne ne] at hd; exact hd, by
      rw [upd_ne ne] at hd
      exact k d _ (raise_same ha hd) upd_same⟩⟩⟩
theorem sIx_pos {n d : Nat} {k : Int} (h : 0 ≤ k) : HT.sIx n d (some k) = min k.toNat n := by
  show (if k < 0 then _ else _) = _
  rw [if_neg (by omega)]
theorem cut_take {xs : List V} {k : Int} (h : 0 ≤ k) : cutV xs none (some k) = xs.take k.toNat := by
  unfold cutV
  rw [HT.sIx_none, sIx_pos h, List.drop_zero, Nat.sub_zero]
  rcases Nat.le_total k.toNat xs.length with h2 | h2
  · rw [Nat.min_eq_left h2]
  · rw [Nat.min_eq_right h2, List.take_of_length_le (Nat.le_refl _), List.take_of_length_le h2]
theorem order_len {k : Nat} {ns : List Int} (h : Jv.orderP k ns) : ns.length = k := by
  rw [h.2.length_eq]; simp
section
variable {l : Int} {L : List (List (List Int))} {p q : Nat}
theorem Gc.rows (w : Gc l L p q) {n1 : List Int} (h : Jv.orderP p n1) : Gc l (rowL L n1) p q := by
  have hl := order_len h
  have hL := w.hp
  have key : ∀ line ∈ rowL L n1, line ∈ L := fun line hm => by
    obtain ⟨e, he, rfl⟩ := List.mem_map.mp hm
    have b := h.1 e he
    have h1 : e.toNat < L.length := by omega
    rw [List.getElem?_eq_getElem h1]
    exact List.getElem_mem h1
  exact ⟨w.l0, w.l6, by unfold rowL; rw [List.length_map, hl], fun line hm => w.hq line (key line hm), w.p0, w.p6, w.q0, w.q6, w.pq, fun line hm => w.len line (key line hm), fun line hm => w.ent line (key line hm)⟩
theorem Gc.cols (w : Gc l L p q) {n2 : List Int} (h : Jv.orderP q n2) : Gc l (colL L n2) p q := by
  have hl := order_len h
  have key : ∀ line ∈ colL L n2, ∀ ns ∈ line, ∃ l0 ∈ L, ns ∈ l0 := fun line hm ns hn => by
    obtain ⟨l0, h0, rfl⟩ := List.mem_map.mp hm
    obtain ⟨f, hf, rfl⟩ := List.mem_map.mp hn
    have b := h.1 f hf
    have h2 := w.hq l0 h0
    have h1 : f.toNat < l0.length := by omega
    refine ⟨l0, h0, ?_⟩
    rw [List.getElem?_eq_getElem h1]
    exact List.getElem_mem h1
  refine ⟨w.l0, w.l6, by unfold colL; rw [List.length_map, w.hp], fun line hm => ?_, w.p0, w.p6, w.q0, w.q6, w.pq, fun line hm ns hn => ?_, fun line hm ns hn => ?_⟩
  · obtain ⟨l0, h0, rfl⟩ := List.mem_map.mp hm
    rw [List.length_map, hl]
  · obtain ⟨l0, h1, h2⟩ := key line hm ns hn
    exact w.len l0 h1 ns h2
  · obtain ⟨l0, h1, h2⟩ := key line hm ns hn
    exact w.ent l0 h1 ns h2
theorem Gc.cut (w : Gc l L p q) {m : Int} (h0 : 0 ≤ m) (h1 : m ≤ l) : Gc m (cutC (m + 1).toNat L) p q := by
  refine ⟨h0, by have := w.l6; omega, by unfold cutC; rw [List.length_map, w.hp], fun line hm => ?_, w.p0, w.p6, w.q0, w.q6, w.pq, fun line hm ns hn => ?_, fun line hm ns hn => ?_⟩
  · obtain ⟨l0, h2, rfl⟩ := List.mem_map.mp hm
    rw [List.length_map, w.hq l0 h2]
  · obtain ⟨l0, h2, rfl⟩ := List.mem_map.mp hm
    obtain ⟨n0, h3, rfl⟩ := List.mem_map.mp hn
    have := w.len l0 h2 n0 h3
    rw [List.length_take]; omega
  · obtain ⟨l0, h2, rfl⟩ := List.mem_map.mp hm
    obtain ⟨n0, h3, rfl⟩ := List.mem_map.mp hn
    exact fun n hn => w.ent l0 h2 n0 h3 n (List.mem_of_mem_take hn)
theorem Gc.few {dw : PyData} (w : Gc l L p q) (h : LinesR dw L) : Jv.few3 dw :=
  few_lines h (by rw [w.hp]; have := w.p6; omega) (fun line h => by rw [w.hq line h]; have := w.q6; omega) fun line h ns h2 => by have := w.len line h ns h2; have := w.l6; omega
theorem Gc.good {dw : PyData} (w : Gc l L p q) (h : LinesR dw L) : GoodC (.int l) dw l L p q := ⟨rfl, h, w⟩
end
section
variable {K : PySem.W.Frag} {H H' H1 : Hp} {C CB a : Addr} {l : Int} {W : PyData} {p q : Int}
theorem CAt.same (h : CAt K H C a l W p q) (s : Same H H') : CAt K H' C a l W p q := by
  obtain ⟨dx, w, t, h1, h2, h4⟩ := h
  exact ⟨dx, w, t, s _ _ h1, h2.same s, h4.same s⟩
theorem mk_goodC {Q : VK} {E : XK} {xl xw : V} {dl dw : PyData} {L : List (List (List Int))} {p q : Nat} (hl : Jv.Dv K H1 xl dl) (hw : Jv.Dv K H1 xw dw) (g : GoodC dl dw l L p q)
    (k : ∀ r H', Same H1 H' → H1 r = none → CAt K H' C r l (linT L) p q → Q (.ref r) H') :
    ∀ x dx, H1 x = none → H1 dx = none → dx ≠ x → sp_Costs_init K C CB [.ref x, xl, xw] (upd (upd H1 dx (.own x)) x (.ins C dx [])) (fun v H2 => v = .non ∧ Q (.ref x) H2) E := fun x dx hx hd ne => by
  have s := make_same (o := .own x) (u := .ins C dx []) hx hd ne
  refine ⟨x, dx, xl, dl, xw, dw, rfl, upd_same, hl.same s, hw.same s, g.g.few g.dw, .inr ⟨l, L, p, q, g, fun H' old ga => ⟨rfl, k x H' (fun b o hb => ?_) hx ga⟩⟩⟩
  exact old b o (ne_of_none hb hx) (s b o hb)
theorem mk_badC {Q : VK} {E : XK} {xl xw : V} {dl dw : PyData} {f : Str} (hl : Jv.Dv K H1 xl dl) (hw : Jv.Dv K H1 xw dw) (fw : Jv.few3 dw) (hf : faultC dl dw = some f)
    (k : ∀ d H', Same H1 H' → H' d = some (.xd [("what", .str f)]) → E (.ref CB) (some d) H') :
    ∀ x dx, H1 x = none → H1 dx = none → dx ≠ x → sp_Costs_init K C CB [.ref x, xl, xw] (upd (upd H1 dx (.own x)) x (.ins C dx [])) (fun v H2 => v = .non ∧ Q (.ref x) H2) E := fun x dx hx hd ne => by
  have s := make_same (o := .own x) (u := .ins C dx []) hx hd ne
  exact ⟨x, dx, xl, dl, xw, dw, rfl, upd_same, hl.same s, hw.same s, fw, .inl ⟨f, hf, fun d H' s' hd' => k d H' (s.trans s') hd'⟩⟩
end
def sp_cut (K : PySem.W.Frag) (C CB : Addr) : Sp := fun vs H Q E => ∃ a x d l L, ∃ p q : Nat, vs = [.ref a, x] ∧ CAt K H C a l (linT L) p q ∧ Gc l L p q ∧ Jv.Dv K H x d ∧
  ((∃ m, d = .int m ∧ 0 ≤ m ∧ m ≤ l ∧ ∀ r H', Same H H' → CAt K H' C r m (linT (cutC (m + 1).toNat L)) p q → Q (.ref r) H') ∨
   (Jv.wholeD d (.int 0) (.int l) = false ∧ ∀ e H', Same H H' → H' e = some (.xd [("what", .str "ladder")]) → E (.ref CB) (some e) H'))
def sp_added (K : PySem.W.Frag) (C CB : Addr) : Sp := fun vs H Q E => ∃ a x d l L, ∃ p q : Nat, vs = [.ref a, x] ∧ CAt K H C a l (linT L) p q ∧ Gc l L p q ∧ Jv.Dv K H x d ∧
  ((∃ b, d = .int b ∧ (-1000000 ≤ b ∧ b ≤ 1000000) ∧ Gc l (addC b L) p q ∧ ∀ r H', Same H H' → CAt K H' C r l (linT (addC b L)) p q → Q (.ref r) H') ∨
   (∃ b, d = .int b ∧ (-1000000 ≤ b ∧ b ≤ 1000000) ∧ faultC (.int l) (linLL (addC b L)) = some "cost" ∧ ∀ e H', Same H H' → H' e = some (.xd [("what", .str "cost")]) → E (.ref CB) (some e) H') ∨
   (Jv.wholeD d (.int (-1000000)) (.int 1000000) = false ∧ ∀ e H', Same H H' → H' e = some (.xd [("what", .str "amount")]) → E (.ref CB) (some e) H'))
def sp_renumbered_lines (K : PySem.W.Frag) : Sp := fun vs H Q _ => ∃ x sd y l L n1, ∃ p q : Nat, vs = [x, .int sd, y] ∧ Gc l L p q ∧ Jv.Dv K H x (linT L) ∧ Jv.Sk K H y (n1.map V.int) ∧
  ((sd = 0 ∧ Jv.orderP p n1 ∧ ∀ r H', Same H H' → Jv.Dv K H' r (linLT (rowL L n1)) → Q r H') ∨
   (sd = 1 ∧ Jv.orderP q n1 ∧ ∀ r H', Same H H' → Jv.Dv K H' r (linTL (colL L n1)) → Q r H'))
def sp_renumbered (K : PySem.W.Frag) (C CS CL : Addr) : Sp := fun vs H Q E => ∃ a sv x l L, ∃ p q : Nat, ∃ ds d, vs = [.ref a, sv, x] ∧ CAt K H C a l (linT L) p q ∧ Gc l L p q ∧ Jv.Dv K H sv ds ∧ Jv.Dv K H x d ∧ few60 d ∧
  ((∃ n1, ds = .int 0 ∧ Jv.seqD d = some (n1.map .int) ∧ Jv.orderP p n1 ∧ ∀ r H', Same H H' → CAt K H' C r l (linT (rowL L n1)) p q → Q (.ref r) H') ∨
   (∃ n1, ds = .int 1 ∧ Jv.seqD d = some (n1.map .int) ∧ Jv.orderP q n1 ∧ ∀ r H', Same H H' → CAt K H' C r l (linT (colL L n1)) p q → Q (.ref r) H') ∨
   (Jv.wholeD ds (.int 0) (.int 1) = false ∧ ∀ H', Same H H' → E (.ref CS) none H') ∨
   (ds = .int 0 ∧ orderD p d = false ∧ ∀ e H', Same H H' → H' e = some (.xd [("side", .int 0)]) → E (.ref CL) (some e) H') ∨
   (ds = .int 1 ∧ orderD q d = false ∧ ∀ e H', Same H H' → H' e = some (.xd [("side", .int 1)]) → E (.ref CL) (some e) H'))
section
variable {P : Program} {w : World} {K : PySem.W.Frag} {mg : Str → Option Value} {base : Heap}
theorem ok_Costs_cut (T : Tx) (O : Ok K mg T) : FnOk P w K mg base (L2.CX P w) 5 T.f_Costs_cut T.d_Costs_cut ["self", "ladder"] (sp_cut K T.C_Costs T.C_BadCosts) := by
  refine O.F_Costs_cut.okX sc_Costs_cut (fun vs H Q E h => by obtain ⟨_, _, _, _, _, _, _, rfl, _⟩ := h; rfl) (fun cdv A outer s H vs Q E hr h => ?_)
  obtain ⟨a, x, d, l, L, p, q, rfl, hc, hw, hx, qq⟩ := h
  obtain ⟨dx, wv, tv, hca, hW, hS⟩ := id hc
  refine ⟨_, (pss_cons (ps_if (pt_not (pt_val (pe_call (ok_is_whole T O) (hr.mono (by decide)) (by rfl) O.m_is_whole O.F_is_whole.kp O.b_is_whole .nil pass0 (pa_cons (pv 1) (pa_cons pe_int (pa_cons (show PE _ _ (tFld K _ _) from pe_fld (pv 0) rfl) pa_nil)))))) (pss_one (ps_raise rfl (takes_of rfl rfl rfl rfl) (pmk_oex O.x_BadCosts.o O.x_BadCosts.n O.x_BadCosts.y (ok_BadCostsu_initu T O) (hr.mono (by decide)) O.b_BadCostsu_initu .nil pass0 (by rfl) O.m_BadCosts (pa_cons pe_str pa_nil)))) pss_nil)
  (pss_one (ps_ret (Jv.pe_makeX O.k_Costs (ok_Costsu_initu T O) (hr.mono (by decide)) (by rfl) O.m_Costs O.b_Costsu_initu .nil (fun σ => passAt (takes_of rfl rfl rfl rfl) σ) (pa_cons (pv 1) (pa_cons (pe_lc (own := [("line", 2)]) (by rfl) sc_Costs_cut.nd (Jv.piOr (show PI _ _ _ (iList K _) from pi_list (show PE _ _ (tFld K _ _) from pe_fld (pv 0) rfl)) (show PI _ _ _ (iTup K _) from pi_tup (show PE _ _ (tFld K _ _) from pe_fld (pv 0) rfl))) (blkOk_by (own := [("line", 2)]) (N := ["self", "ladder", "line", "entry"]) (sc := defScope s_Costs_cut) (scope := ({ kind := .function, names := [(".0", .local), ("line", .local), ("ladder", .free)], isGenerator := false, isCoroutine := false } : Scope)) (by decide +kernel)) (fun _ _ _ _ _ => (pg_name (i := 2) sc_Costs_cut.nd rfl (Or.inl rfl))) (fun _ _ _ _ _ => pts_nil) (fun _ _ _ _ _ => (pe_lc (own := [("entry", 3)]) (by rfl) sc_Costs_cut.nd (Jv.piOr (show PI _ _ _ (iList K _) from pi_list (pv 2)) (show PI _ _ _ (iTup K _) from pi_tup (pv 2))) (blkOk_by (own := [("entry", 3)]) (N := ["self", "ladder", "line", "entry"]) (sc := ({ kind := .function, names := [(".0", .local), ("line", .local), ("ladder", .cell)], isGenerator := false, isCoroutine := false } : Scope)) (scope := ({ kind := .function, names := [(".0", .local), ("entry", .local), ("ladder", .free)], isGenerator := false, isCoroutine := false } : Scope)) (by decide +kernel)) (fun _ _ _ _ _ => (pg_name (i := 3) sc_Costs_cut.nd rfl (Or.inl rfl))) (fun _ _ _ _ _ => pts_nil) (fun _ _ _ _ _ => (pe_slice (r := rSlA K) sl_tupA (pv 3) po_none (po_some (pe_op op_add (pv 1) pe_int))))))) pa_nil)))))), ?_⟩
  walk_at "r"
  refine Jv.r_fld ?_
  walk_at "r"
  refine ⟨a, _, dx, _, _, rfl, hca, O.o_Costs, O.n_Costs_ladder, rfl, ?_⟩
  walk_at "r"
  refine ⟨_, _, _, _, rfl, hx, .inr ⟨_, rfl⟩, .inr ⟨_, rfl⟩, ?_⟩
  rw [hx.whole]
  rcases qq with ⟨m, rfl, m0, m1, k⟩ | ⟨ew, k⟩
  · have ew : Jv.wholeD (.int m) (.int 0) (.int l) = true := by
      show (decide (0 ≤ m) && decide (m ≤ l)) = true
      rw [decide_eq_true m0, decide_eq_true m1]; rfl
    rw [ew]
    cases hx
    walk_at "r"
    refine Jv.r_makeX ?_
    walk_at "r"
    obtain ⟨ws, skW, alW⟩ := hW.sk rfl
    have lws := alW.len
    rw [List.length_map] at lws
    have hp6 := hw.p6
    have hq6 := hw.q6
    have hpL := hw.hp
    have wc := hw.cut m0 m1
    refine Jv.lcS3 (K := K) (N := []) (j := 2) (fun P hP => ?_) skW .nil ((cutC (m + 1).toNat L).map rowTL) (by rw [List.length_map]; unfold cutC; rw [List.length_map]; omega) (by omega) (fun i v e D1 H6 hi hv he s6 hN1 hD1 PP hP => ?_) (fun D1 ys H6 s6 hD1 eD1 dv1 _ => ?_)
    · refine Jv.r_fld ?_
      walk_at "r"
      exact ⟨a, _, dx, _, _, rfl, hca, O.o_Costs, O.n_Costs_lines, rfl, hP⟩
    · obtain ⟨dl, c1, c2⟩ := alW.at hv
      rw [List.getElem?_map] at c1
      obtain ⟨line, c3, rfl⟩ := Option.map_eq_some_iff.mp c1
      have hline := List.mem_of_getElem? c3
      have hlq := hw.hq line hline
      have ee : e = rowTL (line.map fun ns => ns.take (m + 1).toNat) := by
        unfold cutC at he
        rw [List.map_map, List.getElem?_map, c3] at he
        exact (Option.some.inj he).symm
      subst ee
      have c2h : Jv.Dv K (Jv.hide [] H) v (rowT line) := by rw [Jv.hide_nil]; exact c2
      obtain ⟨us, skU, alU⟩ := (c2h.same (Jv.hide_more s6 hD1)).sk rfl
      have lus := alU.len
      rw [List.length_map] at lus
      walk_at "r"
      refine Jv.lcS2 (K := K) (N := [D1]) (j := 3) (i := 2) rfl (skU.same Jv.hide_le) hN1 ((line.map fun ns => ns.take (m + 1).toNat).map fun ns => .tuple (ns.map .int)) (by rw [List.length_map, List.length_map]; omega) (by omega) (fun i2 u e2' D2 H7 hi2 hu he2 s7 hN2 hD2 PP2 hP2 => ?_) (fun D2 ys2 H7 s7 hD2 eD2 dv2 _ => ?_)
      · obtain ⟨dn, g1, g2⟩ := alU.at hu
        rw [List.getElem?_map] at g1
        obtain ⟨ns, g3, rfl⟩ := Option.map_eq_some_iff.mp g1
        have ee2 : e2' = .tuple ((ns.take (m + 1).toNat).map .int) := by
          rw [List.map_map, List.getElem?_map, g3] at he2
          exact (Option.some.inj he2).symm
        subst ee2
        have g4 := g2.same (Jv.hide_more s7 hD2)
        obtain ⟨U, rfl, sqU⟩ : ∃ U, u = .ref U ∧ SqT K (Jv.hide [D2, D1] H7) U (ns.map V.int) := by
          cases g4 with
          | tup h q => rw [Jv.dv_intsV q] at h; exact ⟨_, rfl, h⟩
        walk_at "r"
        unfold tSl
        walk_at "r"
        unfold tNoPart tPart
        walk_at "r"
        refine ⟨_, rfl, ?_⟩
        refine ⟨U, _, rfl, Jv.Same.sqT Jv.hide_le sqU, fun hz => ?_, fun _ p hp => ?_⟩
        · have h2 := hz.2
          rw [sIx_pos (by omega), List.length_map] at h2
          have e1 : ns.take (m + 1).toNat = ns := List.take_of_length_le (by omega)
          refine hP2 _ _ (Same.refl _) ?_
          rw [e1]
          exact .tup sqU (Jv.dv_ints _)
        · rw [cut_take (by omega), ← List.map_take]
          exact hP2 _ _ (Jv.same_new hp) (Jv.dv_new hp hN2 (Jv.dv_ints _))
      · exact hP _ _ s7 (.lst (Jv.hide_at (by
          intro m
          obtain ⟨o, ho⟩ := hN1 D2 m
          rw [hD2] at ho; cases ho) eD2) dv2)
    · walk_at "r"
      rw [Jv.hide_nil] at dv1
      refine mk_goodC (.int m) (.lst eD1 dv1) (wc.good linesR_TL) fun r H' s' _ ga => ?_
      exact k r H' (s6.trans s') ga
  · rw [ew]
    walk_at "r"
    exact raiseC k
theorem ok_Costs_added (T : Tx) (O : Ok K mg T) : FnOk P w K mg base (L2.CX P w) 5 T.f_Costs_added T.d_Costs_added ["self", "amount"] (sp_added K T.C_Costs T.C_BadCosts) := by
  refine O.F_Costs_added.okX sc_Costs_added (fun vs H Q E h => by obtain ⟨_, _, _, _, _, _, _, rfl, _⟩ := h; rfl) (fun cdv A outer s H vs Q E hr h => ?_)
  obtain ⟨a, x, d, l, L, p, q, rfl, hc, hw, hx, qq⟩ := h
  obtain ⟨dx, wv, tv, hca, hW, hS⟩ := id hc
  refine ⟨_, (pss_cons (ps_if (pt_not (pt_val (pe_call (ok_is_whole T O) (hr.mono (by decide)) (by rfl) O.m_is_whole O.F_is_whole.kp O.b_is_whole .nil pass0 (pa_cons (pv 1) (pa_cons (pe_un un_neg (pe_glob (v := .int (1000000)) (by rfl) O.c_COST_MOST ⟨_, rfl⟩)) (pa_cons (pe_glob (v := .int (1000000)) (by rfl) O.c_COST_MOST ⟨_, rfl⟩) pa_nil)))))) (pss_one (ps_raise rfl (takes_of rfl rfl rfl rfl) (pmk_oex O.x_BadCosts.o O.x_BadCosts.n O.x_BadCosts.y (ok_BadCostsu_initu T O) (hr.mono (by decide)) O.b_BadCostsu_initu .nil pass0 (by rfl) O.m_BadCosts (pa_cons pe_str pa_nil)))) pss_nil)
  (pss_one (ps_ret (Jv.pe_makeX O.k_Costs (ok_Costsu_initu T O) (hr.mono (by decide)) (by rfl) O.m_Costs O.b_Costsu_initu .nil (fun σ => passAt (takes_of rfl rfl rfl rfl) σ) (pa_cons (show PE _ _ (tFld K _ _) from pe_fld (pv 0) rfl) (pa_cons (pe_lc (own := [("line", 2)]) (by rfl) sc_Costs_added.nd (Jv.piOr (show PI _ _ _ (iList K _) from pi_list (show PE _ _ (tFld K _ _) from pe_fld (pv 0) rfl)) (show PI _ _ _ (iTup K _) from pi_tup (show PE _ _ (tFld K _ _) from pe_fld (pv 0) rfl))) (blkOk_by (own := [("line", 2)]) (N := ["self", "amount", "line", "entry", "cost"]) (sc := defScope s_Costs_added) (scope := ({ kind := .function, names := [(".0", .local), ("line", .local), ("amount", .free)], isGenerator := false, isCoroutine := false } : Scope)) (by decide +kernel)) (fun _ _ _ _ _ => (pg_name (i := 2) sc_Costs_added.nd rfl (Or.inl rfl))) (fun _ _ _ _ _ => pts_nil) (fun _ _ _ _ _ => (pe_lc (own := [("entry", 3)]) (by rfl) sc_Costs_added.nd (Jv.piOr (show PI _ _ _ (iList K _) from pi_list (pv 2)) (show PI _ _ _ (iTup K _) from pi_tup (pv 2))) (blkOk_by (own := [("entry", 3)]) (N := ["self", "amount", "line", "entry", "cost"]) (sc := ({ kind := .function, names := [(".0", .local), ("line", .local), ("amount", .cell)], isGenerator := false, isCoroutine := false } : Scope)) (scope := ({ kind := .function, names := [(".0", .local), ("entry", .local), ("amount", .free)], isGenerator := false, isCoroutine := false } : Scope)) (by decide +kernel)) (fun _ _ _ _ _ => (pg_name (i := 3) sc_Costs_added.nd rfl (Or.inl rfl))) (fun _ _ _ _ _ => pts_nil) (fun _ _ _ _ _ => (pe_lc (own := [("cost", 4)]) (by rfl) sc_Costs_added.nd (Jv.piOr (show PI _ _ _ (iList K _) from pi_list (pv 3)) (show PI _ _ _ (iTup K _) from pi_tup (pv 3))) (blkOk_by (own := [("cost", 4)]) (N := ["self", "amount", "line", "entry", "cost"]) (sc := ({ kind := .function, names := [(".0", .local), ("entry", .local), ("amount", .cell)], isGenerator := false, isCoroutine := false } : Scope)) (scope := ({ kind := .function, names := [(".0", .local), ("cost", .local), ("amount", .free)], isGenerator := false, isCoroutine := false } : Scope)) (by decide +kernel)) (fun _ _ _ _ _ => (pg_name (i := 4) sc_Costs_added.nd rfl (Or.inl rfl))) (fun _ _ _ _ _ => pts_nil) (fun _ _ _ _ _ => (pe_op op_add (pv 4) (pv 1)))))))) pa_nil)))))), ?_⟩
  walk_at "r"
  refine ⟨_, _, _, _, rfl, hx, .inr ⟨_, rfl⟩, .inr ⟨_, rfl⟩, ?_⟩
  rw [hx.whole]
  have go : ∀ b, d = .int b → (-1000000 ≤ b ∧ b ≤ 1000000) → Jv.wholeD d (.int (-1000000)) (.int 1000000) = true := fun b e hb => by
    rw [e]
    show (decide (-1000000 ≤ b) && decide (b ≤ 1000000)) = true
    rw [decide_eq_true hb.1, decide_eq_true hb.2]; rfl
  cases ew : Jv.wholeD d (.int (-1000000)) (.int 1000000) with
  | false =>
    walk_at "r"
    rcases qq with ⟨b, e, hb, _⟩ | ⟨b, e, hb, _⟩ | ⟨_, k⟩
    · rw [go b e hb] at ew; cases ew
    · rw [go b e hb] at ew; cases ew
    · exact raiseC k
  | true =>
    obtain ⟨b, rfl, b0, b1⟩ := Jv.wholeD_int ew
    cases hx
    walk_at "r"
    refine Jv.r_makeX ?_
    walk_at "r"
    refine Jv.r_fld ?_
    walk_at "r"
    refine ⟨a, _, dx, _, _, rfl, hca, O.o_Costs, O.n_Costs_ladder, rfl, ?_⟩
    walk_at "r"
    obtain ⟨ws, skW, alW⟩ := hW.sk rfl
    have lws := alW.len
    rw [List.length_map] at lws
    have hp6 := hw.p6
    have hq6 := hw.q6
    have hpL := hw.hp
    have l6 := hw.l6
    refine Jv.lcS3 (K := K) (N := []) (j := 2) (fun P hP => ?_) skW .nil ((addC b L).map fun line => .list (line.map fun ns => .list (ns.map .int))) (by rw [List.length_map]; unfold addC; rw [List.length_map]; omega) (by omega) (fun i v e D1 H6 hi hv he s6 hN1 hD1 PP hP => ?_) (fun D1 ys H6 s6 hD1 eD1 dv1 _ => ?_)
    · refine Jv.r_fld ?_
      walk_at "r"
      exact ⟨a, _, dx, _, _, rfl, hca, O.o_Costs, O.n_Costs_lines, rfl, hP⟩
    · obtain ⟨dl, c1, c2⟩ := alW.at hv
      rw [List.getElem?_map] at c1
      obtain ⟨line, c3, rfl⟩ := Option.map_eq_some_iff.mp c1
      have hline := List.mem_of_getElem? c3
      have hlq := hw.hq line hline
      have ee : e = .list ((line.map fun ns => ns.map (· + b)).map fun ns => .list (ns.map .int)) := by
        unfold addC at he
        rw [List.map_map, List.getElem?_map, c3] at he
        exact (Option.some.inj he).symm
      subst ee
      obtain ⟨us, skU, alU⟩ := (c2.same s6).sk rfl
      have lus := alU.len
      rw [List.length_map] at lus
      walk_at "r"
      refine Jv.lcS2 (K := K) (N := [D1]) (j := 3) (i := 2) rfl skU hN1 ((line.map fun ns => ns.map (· + b)).map fun ns => .list (ns.map .int)) (by rw [List.length_map, List.length_map]; omega) (by omega) (fun i2 u e2' D2 H7 hi2 hu he2 s7 hN2 hD2 PP2 hP2 => ?_) (fun D2 ys2 H7 s7 hD2 eD2 dv2 _ => ?_)
      · obtain ⟨dn, g1, g2⟩ := alU.at hu
        rw [List.getElem?_map] at g1
        obtain ⟨ns, g3, rfl⟩ := Option.map_eq_some_iff.mp g1
        have hns := List.mem_of_getElem? g3
        have hnl := hw.len line hline ns hns
        have ee2 : e2' = .list ((ns.map (· + b)).map .int) := by
          rw [List.map_map, List.getElem?_map, g3] at he2
          exact (Option.some.inj he2).symm
        subst ee2
        obtain ⟨zs, skZ, alZ⟩ := (g2.same s7).sk rfl
        obtain rfl := Jv.dv_intsV alZ
        walk_at "r"
        refine Jv.lcS2 (K := K) (N := [D2, D1]) (j := 4) (i := 3) rfl skZ hN2 ((ns.map (· + b)).map .int) (by simp) (by rw [List.length_map]; omega) (fun i3 z e3 D3 H8 hi3 hz he3 s8 hN3 hD3 PP3 hP3 => ?_) (fun D3 ys3 H8 s8 hD3 eD3 dv3 _ => ?_)
        · obtain ⟨n, hn, rfl⟩ := Jv.map_at hz
          have ee3 : e3 = .int (n + b) := by
            rw [List.map_map, List.getElem?_map, hn] at he3
            exact (Option.some.inj he3).symm
          subst ee3
          walk_at "r"
          exact hP3 _ _ (Same.refl _) (.int _)
        · exact hP2 _ _ s8 (.lst (Jv.hide_at (by
            intro m
            obtain ⟨o, ho⟩ := hN2 D3 m
            rw [hD3] at ho; cases ho) eD3) dv3)
      · exact hP _ _ s7 (.lst (Jv.hide_at (by
          intro m
          obtain ⟨o, ho⟩ := hN1 D2 m
          rw [hD2] at ho; cases ho) eD2) dv2)
    · walk_at "r"
      rw [Jv.hide_nil] at dv1
      rcases qq with ⟨b', e, hb, wa, k⟩ | ⟨b', e, hb, ef, k⟩ | ⟨hf, _⟩
      · cases e
        refine mk_goodC (.int l) (.lst eD1 dv1) (wa.good linesR_LL) fun r H' s' _ ga => ?_
        exact k r H' (s6.trans s') ga
      · cases e
        refine mk_badC (.int l) (.lst eD1 dv1) (few_lines (linesR_LL (L := addC b L)) (by unfold addC; rw [List.length_map]; omega) (fun line hm => ?_) (fun line hm ns hn => ?_)) ef fun d H' s' hd => k d H' (s6.trans s') hd
        · obtain ⟨l0, h2, rfl⟩ := List.mem_map.mp hm
          rw [List.length_map, hw.hq l0 h2]; omega
        · obtain ⟨l0, h2, rfl⟩ := List.mem_map.mp hm
          obtain ⟨n0, h3, rfl⟩ := List.mem_map.mp hn
          have := hw.len l0 h2 n0 h3
          rw [List.length_map]; omega
      · rw [hf] at ew; cases ew
theorem ok_renumbered_lines (T : Tx) (O : Ok K mg T) : FnOk P w K mg base CX0 2 T.f_renumbered_lines T.d_renumbered_lines ["lines", "side", "order"] (sp_renumbered_lines K) := by
  refine O.F_renumbered_lines.ok sc_renumbered_lines (fun vs H Q E h => by obtain ⟨_, _, _, _, _, _, _, _, rfl, _⟩ := h; rfl) (fun cdv A outer s H vs Q E hr h => ?_)
  obtain ⟨x, sd, y, l, L, n1, p, q, rfl, hw, hx, hy, qq⟩ := h
  refine ⟨_, (pss_cons (ps_if (pt_cmpR op_eq (pv 1) (pe_glob (v := .int (0)) (by rfl) O.c_EAST ⟨_, rfl⟩) (nomark _)) (pss_one (ps_ret (pe_lc (own := [("kind", 4)]) (by rfl) sc_renumbered_lines.nd (Jv.piOr (show PI _ _ _ (iList K _) from pi_list (pv 2)) (show PI _ _ _ (iTup K _) from pi_tup (pv 2))) (blkOk_by (own := [("kind", 4)]) (N := ["lines", "side", "order", "line", "kind"]) (sc := defScope s_renumbered_lines) (scope := ({ kind := .function, names := [(".0", .local), ("kind", .local), ("lines", .free)], isGenerator := false, isCoroutine := false } : Scope)) (by decide +kernel)) (fun _ _ _ _ _ => (pg_name (i := 4) sc_renumbered_lines.nd rfl (Or.inl rfl))) (fun _ _ _ _ _ => pts_nil) (fun _ _ _ _ _ => (pe_ix (r := rIx K) ix_seq (pv 0) (pv 4) (fun _ _ => rfl)))))) pss_nil)
  (pss_one (ps_ret (pe_lc (own := [("line", 3)]) (by rfl) sc_renumbered_lines.nd (Jv.piOr (show PI _ _ _ (iList K _) from pi_list (pv 0)) (show PI _ _ _ (iTup K _) from pi_tup (pv 0))) (blkOk_by (own := [("line", 3)]) (N := ["lines", "side", "order", "line", "kind"]) (sc := defScope s_renumbered_lines) (scope := ({ kind := .function, names := [(".0", .local), ("line", .cell), ("order", .free)], isGenerator := false, isCoroutine := false } : Scope)) (by decide +kernel)) (fun _ _ _ _ _ => (pg_name (i := 3) sc_renumbered_lines.nd rfl (Or.inr rfl))) (fun _ _ _ _ _ => pts_nil) (fun _ _ _ _ _ => (pe_lc (own := [("kind", 4)]) (by rfl) sc_renumbered_lines.nd (Jv.piOr (show PI _ _ _ (iList K _) from pi_list (pv 2)) (show PI _ _ _ (iTup K _) from pi_tup (pv 2))) (blkOk_by (own := [("kind", 4)]) (N := ["lines", "side", "order", "line", "kind"]) (sc := ({ kind := .function, names := [(".0", .local), ("line", .cell), ("order", .cell)], isGenerator := false, isCoroutine := false } : Scope)) (scope := ({ kind := .function, names := [(".0", .local), ("kind", .local), ("line", .free)], isGenerator := false, isCoroutine := false } : Scope)) (by decide +kernel)) (fun _ _ _ _ _ => (pg_name (i := 4) sc_renumbered_lines.nd rfl (Or.inl rfl))) (fun _ _ _ _ _ => pts_nil) (fun _ _ _ _ _ => (pe_ix (r := rIx K) ix_seq (pv 3) (pv 4) (fun _ _ => rfl))))))))), ?_⟩
  have hp6 := hw.p6
  have hq6 := hw.q6
  have hpL := hw.hp
  obtain ⟨ws, skW, alW⟩ := hx.sk rfl
  have lws := alW.len
  rw [List.length_map] at lws
  rcases qq with ⟨rfl, h1, k⟩ | ⟨rfl, h1, k⟩
  · have hl1 := order_len h1
    walk_at "r"
    refine Jv.lcS2 (K := K) (N := []) (j := 4) (i := 2) rfl hy .nil ((rowL L n1).map rowT) (by rw [List.length_map, List.length_map]; unfold rowL; rw [List.length_map]) (by rw [List.length_map]; omega) (fun i v e D1 H6 hi hv he s6 hN1 hD1 PP hP => ?_) (fun D1 ys H6 s6 hD1 eD1 dv1 _ => ?_)
    · obtain ⟨z, hz, rfl⟩ := Jv.map_at hv
      have hzb := h1.1 z (List.mem_of_getElem? hz)
      have hzL : z.toNat < L.length := by omega
      have ee : e = rowT L[z.toNat] := by
        unfold rowL at he
        rw [List.map_map, List.getElem?_map, hz] at he
        have := (Option.some.inj he).symm
        rw [this]
        show rowT ((L[z.toNat]?).getD []) = _
        rw [List.getElem?_eq_getElem hzL]; rfl
      subst ee
      obtain ⟨wv1, c1, c2⟩ := alW.of (i := z.toNat) (d := rowT L[z.toNat]) (by rw [List.getElem?_map, List.getElem?_eq_getElem hzL]; rfl)
      walk_at "r"
      refine (skW.same s6).ix (Jv.at_i (by omega) c1) ?_
      refine hP _ _ (Same.refl _) ?_
      have c3 : Jv.Dv K (Jv.hide [] H) wv1 (rowT L[z.toNat]) := by rw [Jv.hide_nil]; exact c2
      exact c3.same (Jv.hide_more s6 hD1)
    · walk_at "r"
      rw [Jv.hide_nil] at dv1
      exact k _ _ s6 (.lst eD1 dv1)
  · have hl1 := order_len h1
    walk_at "r"
    refine Jv.lcS2 (K := K) (N := []) (j := 3) (i := 0) rfl skW .nil ((colL L n1).map rowTL) (by rw [List.length_map]; unfold colL; rw [List.length_map]; omega) (by omega) (fun i v e D1 H6 hi hv he s6 hN1 hD1 PP hP => ?_) (fun D1 ys H6 s6 hD1 eD1 dv1 _ => ?_)
    · obtain ⟨dl, c1, c2⟩ := alW.at hv
      rw [List.getElem?_map] at c1
      obtain ⟨line, c3, rfl⟩ := Option.map_eq_some_iff.mp c1
      have hline := List.mem_of_getElem? c3
      have hlq := hw.hq line hline
      have ee : e = rowTL (n1.map fun w => (line[w.toNat]?).getD []) := by
        unfold colL at he
        rw [List.map_map, List.getElem?_map, c3] at he
        exact (Option.some.inj he).symm
      subst ee
      obtain ⟨us, skU, alU⟩ := (c2.same s6).sk rfl
      walk_at "r"
      refine Jv.lcS2 (K := K) (N := [D1]) (j := 4) (i := 2) rfl (hy.same s6) hN1 ((n1.map fun w => (line[w.toNat]?).getD []).map fun ns => .tuple (ns.map .int)) (by rw [List.length_map, List.length_map, List.length_map]) (by rw [List.length_map]; omega) (fun i2 u e2' D2 H7 hi2 hu he2 s7 hN2 hD2 PP2 hP2 => ?_) (fun D2 ys2 H7 s7 hD2 eD2 dv2 _ => ?_)
      · obtain ⟨y, hy2, rfl⟩ := Jv.map_at hu
        have hyb := h1.1 y (List.mem_of_getElem? hy2)
        have hyL : y.toNat < line.length := by omega
        have ee2 : e2' = .tuple (line[y.toNat].map .int) := by
          rw [List.map_map, List.getElem?_map, hy2] at he2
          have := (Option.some.inj he2).symm
          rw [this]
          show PyData.tuple (((line[y.toNat]?).getD []).map .int) = _
          rw [List.getElem?_eq_getElem hyL]; rfl
        subst ee2
        have c2h : Jv.Dv K (Jv.hide [] H) v (rowT line) := by rw [Jv.hide_nil]; exact c2
        obtain ⟨us2, skU2, alU2⟩ := (c2h.same (Jv.hide_more s6 hD1)).sk rfl
        obtain ⟨wv2, d1, d2⟩ := alU2.of (i := y.toNat) (d := .tuple (line[y.toNat].map .int)) (by rw [List.getElem?_map, List.getElem?_eq_getElem hyL]; rfl)
        walk_at "r"
        refine (skU2.same ((Jv.hide_le).trans s7)).ix (Jv.at_i (by omega) d1) ?_
        exact hP2 _ _ (Same.refl _) (d2.same (Jv.hide_more s7 hD2))
      · exact hP _ _ s7 (.lst (Jv.hide_at (by
          intro m
          obtain ⟨o, ho⟩ := hN1 D2 m
          rw [hD2] at ho; cases ho) eD2) dv2)
    · walk_at "r"
      rw [Jv.hide_nil] at dv1
      exact k _ _ s6 (.lst eD1 dv1)
theorem ok_Costs_renumbered (T : Tx) (O : Ok K mg T) : FnOk P w K mg base (L2.CX P w) 5 T.f_Costs_renumbered T.d_Costs_renumbered ["self", "side", "order"] (sp_renumbered K T.C_Costs T.C_BadSide T.C_BadLot) := by
  refine O.F_Costs_renumbered.okX sc_Costs_renumbered (fun vs H Q E h => by obtain ⟨_, _, _, _, _, _, _, _, _, rfl, _⟩ := h; rfl) (fun cdv A outer s H vs Q E hr h => ?_)
  obtain ⟨a, sv, x, l, L, p, q, ds, d, rfl, hg, hw, hs, hx, f1, qq⟩ := h
  obtain ⟨dx, wv, tv, hga, hW, hS⟩ := id hg
  refine ⟨_, (pss_cons (ps_set (i := 3) sc_Costs_renumbered.nd rfl (Or.inl rfl) (pe_callS (ok_check_side_order T O) (hr.mono (by decide)) (by rfl) O.m_check_side_order O.F_check_side_order.kp O.b_check_side_order (fun σ => passAt (takes_of rfl rfl rfl rfl) σ) (pa_cons (pv 2) (pa_cons (pe_ix (r := rIx K) ix_seq (show PE _ _ (tFld K _ _) from pe_fld (pv 0) rfl) (pe_callS (ok_check_side T O) (hr.mono (by decide)) (by rfl) O.m_check_side O.F_check_side.kp O.b_check_side (fun σ => passAt (takes_of rfl rfl rfl rfl) σ) (pa_cons (pv 1) pa_nil)) (fun _ _ => rfl)) (pa_cons (pv 1) pa_nil)))))
  (pss_one (ps_ret (Jv.pe_makeX O.k_Costs (ok_Costsu_initu T O) (hr.mono (by decide)) (by rfl) O.m_Costs O.b_Costsu_initu .nil (fun σ => passAt (takes_of rfl rfl rfl rfl) σ) (pa_cons (show PE _ _ (tFld K _ _) from pe_fld (pv 0) rfl) (pa_cons (pe_call (ok_renumbered_lines T O) (hr.mono (by decide)) (by rfl) O.m_renumbered_lines O.F_renumbered_lines.kp O.b_renumbered_lines .nil pass0 (pa_cons (show PE _ _ (tFld K _ _) from pe_fld (pv 0) rfl) (pa_cons (pv 1) (pa_cons (pv 3) pa_nil)))) pa_nil)))))), ?_⟩
  walk_at "r"
  refine Jv.r_fld ?_
  walk_at "r"
  refine ⟨a, _, dx, _, _, rfl, hga, O.o_Costs, O.n_Costs_sides, rfl, ?_⟩
  walk_at "r"
  obtain ⟨ss, skS, alS⟩ := hS.sk rfl
  have alS2 := alS
  cases alS2 with
  | cons c1 c2 =>
  cases c1
  cases c2 with
  | cons c1 c2 =>
  cases c1
  cases c2
  have hp6 := hw.p6
  have hq6 := hw.q6
  refine ⟨_, _, rfl, hs, fun ew => ?_, fun ew => ?_⟩
  · obtain ⟨s0, rfl, b0, b1⟩ := Jv.wholeD_int ew
    cases hs
    have hs01 : s0 = 0 ∨ s0 = 1 := by omega
    rcases hs01 with rfl | rfl
    · show rIx K tv (.int 0) H _
      refine skS.ix (v := .int p) rfl ?_
      walk_at "r"
      refine ⟨_, _, _, _, rfl, hx, f1, ⟨by omega, by omega⟩, ?_⟩
      rcases qq with ⟨n1, _, e1, h1, k⟩ | ⟨_, hc, _⟩ | ⟨hf, _⟩ | ⟨_, hf, k⟩ | ⟨hc, _⟩
      · refine .inl ⟨n1, e1, h1, fun te H1 s1 ht1 => ?_⟩
        have wr := hw.rows h1
        walk_at "r"
        refine Jv.r_makeX ?_
        walk_at "r"
        refine Jv.r_fld ?_
        walk_at "r"
        refine ⟨a, _, dx, _, _, rfl, s1 _ _ hga, O.o_Costs, O.n_Costs_ladder, rfl, ?_⟩
        walk_at "r"
        have ht1' : Jv.Sk K H1 (.ref te) (n1.map V.int) := ⟨te, rfl, .inr ht1⟩
        refine Jv.r_fld ?_
        walk_at "r"
        refine ⟨a, _, dx, _, _, rfl, s1 _ _ hga, O.o_Costs, O.n_Costs_lines, rfl, ?_⟩
        walk_at "r"
        refine ⟨_, _, _, l, L, n1, p, q, rfl, hw, hW.same s1, ht1', .inl ⟨rfl, h1, fun rv H6 s6 dv1 => ?_⟩⟩
        walk_at "r"
        have s16 := s1.trans s6
        refine mk_goodC (.int l) dv1 (wr.good linesR_LT) fun r H' s' _ ga => ?_
        exact k r H' (s16.trans s') ga
      · cases hc
      · exact absurd hf (by decide)
      · exact .inr ⟨hf, fun e H' s' he => k e H' s' he⟩
      · cases hc
    · show rIx K tv (.int 1) H _
      refine skS.ix (v := .int q) rfl ?_
      walk_at "r"
      refine ⟨_, _, _, _, rfl, hx, f1, ⟨by omega, by omega⟩, ?_⟩
      rcases qq with ⟨_, hc, _⟩ | ⟨n1, _, e1, h1, k⟩ | ⟨hf, _⟩ | ⟨hc, _⟩ | ⟨_, hf, k⟩
      · cases hc
      · refine .inl ⟨n1, e1, h1, fun te H1 s1 ht1 => ?_⟩
        have wr := hw.cols h1
        walk_at "r"
        refine Jv.r_makeX ?_
        walk_at "r"
        refine Jv.r_fld ?_
        walk_at "r"
        refine ⟨a, _, dx, _, _, rfl, s1 _ _ hga, O.o_Costs, O.n_Costs_ladder, rfl, ?_⟩
        walk_at "r"
        have ht1' : Jv.Sk K H1 (.ref te) (n1.map V.int) := ⟨te, rfl, .inr ht1⟩
        refine Jv.r_fld ?_
        walk_at "r"
        refine ⟨a, _, dx, _, _, rfl, s1 _ _ hga, O.o_Costs, O.n_Costs_lines, rfl, ?_⟩
        walk_at "r"
        refine ⟨_, _, _, l, L, n1, p, q, rfl, hw, hW.same s1, ht1', .inr ⟨rfl, h1, fun rv H6 s6 dv1 => ?_⟩⟩
        walk_at "r"
        have s16 := s1.trans s6
        refine mk_goodC (.int l) dv1 (wr.good linesR_TL) fun r H' s' _ ga => ?_
        exact k r H' (s16.trans s') ga
      · exact absurd hf (by decide)
      · cases hc
      · exact .inr ⟨hf, fun e H' s' he => k e H' s' he⟩
  · rcases qq with ⟨_, rfl, _⟩ | ⟨_, rfl, _⟩ | ⟨_, k⟩ | ⟨rfl, _⟩ | ⟨rfl, _⟩
    · exact absurd ew (by decide)
    · exact absurd ew (by decide)
    · exact k H (Same.refl _)
    · exact absurd ew (by decide)
    · exact absurd ew (by decide)
end
end K49

namespace Jv
open PySem PySem.Spec PyProof.Rows L2
/-! ### the hand beside data -/
section
variable {K : PySem.W.Frag} {H H' H1 : Hp} {p l b : Addr} {o : HO}
theorem Hand.ne2 (h : Hand H p l) (n : H b = none) : b ≠ p ∧ b ≠ l := by
  obtain ⟨ns, k, c, t, hA⟩ := h
  exact ⟨fun e => (by rw [e, hA.hp] at n; cases n), fun e => (by rw [e, hA.hl] at n; cases n)⟩
theorem Hand.upd (h : Hand H p l) (n1 : b ≠ p) (n2 : b ≠ l) : Hand (L2.upd H b o) p l := by
  obtain ⟨ns, k, c, t, hA⟩ := h
  exact ⟨ns, k, c, t, by rw [upd_ne n1.symm]; exact hA.hp, by rw [upd_ne n2.symm]; exact hA.hl, hA.nn, hA.few, hA.bd⟩
theorem Kp.free (k : Kp p H H') (h : Hand H' p l) (n : H' b = none) : H b = none := by
  cases e : H b with
  | none => rfl
  | some o =>
    obtain ⟨u, hu⟩ := h.at
    by_cases nb : b = p
    · rw [nb, hu] at n; cases n
    · rw [k b o nb e] at n; cases n
theorem Kp.hide (k : Kp p H H') : Same (Jv.hide [p] H) (Jv.hide [p] H') := fun b o e => by
  obtain ⟨n, e2⟩ := hide_some e
  exact hide_at n (k b o (fun h => n (by rw [h]; exact List.mem_singleton.mpr rfl)) e2)
theorem hide_one {p b : Addr} {o : HO} (n : b ≠ p) (h : H b = some o) : Jv.hide [p] H b = some o := hide_at (fun m => n (List.mem_singleton.mp m)) h
end
end Jv
namespace K49
open PySem PySem.Spec PyProof.Rows L2
/-! ### the law's own things -/
def sp_Lwhole (K : PySem.W.Frag) : Sp := fun vs H Q _ => ∃ x d, vs = [x] ∧ Jv.Dv K H x d ∧ Q (.bl (Jv.intD d)) H
theorem inV_ints {z : Int} : ∀ {ns : List Int}, inV (.int z) (ns.map V.int) = decide (z ∈ ns)
  | [] => by simp [inV]
  | a :: r => by
    have ih := inV_ints (z := z) (ns := r)
    unfold inV at ih ⊢
    rw [List.map_cons, List.any_cons, ih]
    by_cases h : a = z
    · subst h; simp [eqV]
    · have h2 : ¬ z = a := fun e => h e.symm
      simp [eqV, h, h2]
theorem flat_ints (ns : List Int) : (ns.map V.int).all flatV = true := by
  rw [List.all_map, List.all_eq_true]; intro n _; rfl
section
variable {P : Program} {w : World} {K : PySem.W.Frag} {mg : Str → Option Value} {base : Heap}
theorem ok_Lwhole (T : Tx) (O : Ok K mg T) : FnOk P w K mg base CX0 1 T.f_Lwhole T.d_Lwhole ["_law_thing"] (sp_Lwhole K) := by
  refine O.F_Lwhole.ok sc_Lwhole (fun vs H Q E h => by obtain ⟨_, _, rfl, _⟩ := h; rfl) (fun cdv A outer s H vs Q E hr h => ?_)
  obtain ⟨x, d, rfl, hx, q⟩ := h
  refine ⟨_, (pss_one (ps_ret (pe_and (pe_callB (r := rIsi K) call_isi (by rfl) O.z_isinstance (by decide +kernel) (pa_cons (pv 0) (pa_cons (pe_bltn (v := .ty "int") (by rfl) O.z_int (by decide +kernel) rfl) pa_nil))) (pe_one (pe_not (pe_callB (r := rIsi K) call_isi (by rfl) O.z_isinstance (by decide +kernel) (pa_cons (pv 0) (pa_cons (pe_bltn (v := .ty "bool") (by rfl) O.z_bool (by decide +kernel) rfl) pa_nil)))))))), ?_⟩
  walk_at "r"
  cases hx <;> walk_at "r" <;> exact q
end
end K49

namespace K49
open PySem PySem.Spec PyProof.Rows L2
/-! ### the law's own copies and its own word -/
def FL (L : List (List (List Int))) : Prop := L.length ≤ 60 ∧ ∀ line ∈ L, line.length ≤ 60 ∧ ∀ ns ∈ line, ns.length ≤ 60
def resV : Option Str → V
  | none => .non
  | some f => .str f
def sp_Ltuples (K : PySem.W.Frag) : Sp := fun vs H Q _ => ∃ x L, vs = [x] ∧ Jv.Dv K H x (linLL L) ∧ FL L ∧ ∀ r H', Same H H' → Jv.Dv K H' r (linT L) → Q r H'
def sp_Llists (K : PySem.W.Frag) : Sp := fun vs H Q _ => ∃ x L, vs = [x] ∧ Jv.Dv K H x (linLL L) ∧ FL L ∧ ∀ D A H', Same H H' → Jv.Ft K H' (.ref D) (linLL L) A → (∀ a ∈ A, H a = none) → Q (.ref D) H'
def sp_Lmade (K : PySem.W.Frag) : Sp := fun vs H Q _ => ∃ xl dl xw dw, vs = [xl, xw] ∧ Jv.Dv K H xl dl ∧ Jv.Dv K H xw dw ∧ Jv.few3 dw ∧ ∀ H', Same H H' → Q (resV (faultC dl dw)) H'
theorem Gc.fl {l : Int} {L : List (List (List Int))} {p q : Nat} (w : Gc l L p q) : FL L :=
  ⟨by rw [w.hp]; have := w.p6; omega, fun line h => ⟨by rw [w.hq line h]; have := w.q6; omega, fun ns h2 => by have := w.len line h ns h2; have := w.l6; omega⟩⟩
/-! ### without a fault they are costs -/
def intOf : PyData → Int
  | .int i => i
  | _ => 0
def linesOf (dw : PyData) : List (List (List Int)) := ((Jv.seqD dw).getD []).map fun r => ((Jv.seqD r).getD []).map fun e => ((Jv.seqD e).getD []).map intOf
theorem pair_to {α β : Type} {f : α → β} {F : α → β → Prop} : ∀ {xs : List α}, (∀ x ∈ xs, F x (f x)) → Paired F xs (xs.map f)
  | [], _ => .nil
  | a :: r, h => .cons (h a List.mem_cons_self) (pair_to fun y m => h y (List.mem_cons_of_mem _ m))
theorem lines_some {dw : PyData} {p q : Nat} (h : Jv.linesD dw = some (p, q)) : ∃ rows, Jv.seqD dw = some rows ∧ rows.length = p ∧ ∀ r ∈ rows, ∃ es, Jv.seqD r = some es ∧ es.length = q := by
  unfold Jv.linesD at h
  cases er : Jv.seqD dw with
  | none => rw [er] at h; cases h
  | some rows =>
    rw [er] at h; dsimp only at h
    cases hb : rows.all (fun e => (Jv.seqD e).isSome) with
    | false => rw [hb, if_neg Bool.false_ne_true] at h; cases h
    | true =>
      rw [hb, if_pos rfl] at h
      refine ⟨rows, rfl, ?_⟩
      cases rows with
      | nil => cases h
      | cons a r =>
        rw [List.map_cons] at h
        dsimp only at h
        split at h
        · rename_i hall
          cases h
          refine ⟨by simp, fun x hx => ?_⟩
          obtain ⟨es, he⟩ := Option.isSome_iff_exists.mp (List.all_eq_true.mp hb x hx)
          refine ⟨es, he, ?_⟩
          rcases List.mem_cons.mp hx with rfl | hx
          · rw [he]; rfl
          · have := List.all_eq_true.mp hall _ (List.mem_map.mpr ⟨x, hx, rfl⟩)
            have := of_decide_eq_true this
            rw [he] at this
            exact this
        · cases h
theorem sides_some {o : Option (Nat × Nat)} (h : Jv.sidesD (sidesOf o) = true) : ∃ p q : Nat, o = some (p, q) ∧ (1 ≤ p ∧ p ≤ 6) ∧ (1 ≤ q ∧ q ≤ 6) ∧ p * q ≤ 12 := by
  cases o with
  | none => cases h
  | some pq =>
    obtain ⟨p, q⟩ := pq
    have h2 := of_decide_eq_true (show decide (((1 : Int) ≤ p ∧ (p : Int) ≤ 6) ∧ ((1 : Int) ≤ q ∧ (q : Int) ≤ 6) ∧ (p : Int) * q ≤ 12) = true from h)
    refine ⟨p, q, rfl, by omega, by omega, ?_⟩
    have := h2.2.2
    exact_mod_cast this
theorem ent_ok {l : Int} {e : PyData} (h : entD l e = true) : ∃ ns : List Int, Jv.seqD e = some (ns.map .int) ∧ (ns.length : Int) = l + 1 ∧ (∀ n ∈ ns, 0 ≤ n ∧ n ≤ 1000000) ∧ ((Jv.seqD e).getD []).map intOf = ns := by
  unfold entD at h
  cases es : Jv.seqD e with
  | none => rw [es] at h; cases h
  | some ds =>
    rw [es] at h; dsimp only at h
    rw [Bool.and_eq_true] at h
    obtain ⟨h1, h2⟩ := h
    have h1 := of_decide_eq_true h1
    have key : ∀ ds : List PyData, (ds.all fun e => Jv.wholeD e (.int 0) (.int 1000000)) = true → ds = (ds.map intOf).map .int ∧ ∀ n ∈ ds.map intOf, 0 ≤ n ∧ n ≤ 1000000 := by
      intro ds
      induction ds with
      | nil => intro _; exact ⟨rfl, fun n hn => nomatch hn⟩
      | cons d r ih =>
        intro hd
        rw [List.all_cons, Bool.and_eq_true] at hd
        obtain ⟨i, rfl, a, b⟩ := Jv.wholeD_int hd.1
        obtain ⟨e1, e2⟩ := ih hd.2
        refine ⟨by rw [List.map_cons, List.map_cons, ← e1]; rfl, fun n hn => ?_⟩
        rw [List.map_cons] at hn
        rcases List.mem_cons.mp hn with rfl | hn
        · exact ⟨a, b⟩
        · exact e2 n hn
    obtain ⟨k1, k2⟩ := key ds h2
    exact ⟨ds.map intOf, by rw [← k1], by rw [List.length_map]; exact h1, k2, rfl⟩
theorem good_of {dl dw : PyData} (h : faultC dl dw = none) : ∃ l L p q, GoodC dl dw l L p q := by
  unfold faultC at h
  cases dl with
  | int l =>
    dsimp only at h
    split at h
    · cases h
    rename_i hw
    split at h
    · cases h
    rename_i hs
    split at h
    · cases h
    rename_i ha
    have hw : Jv.wholeD (.int l) (.int 0) (.int 6) = true := by cases e : Jv.wholeD (.int l) (.int 0) (.int 6) with | true => rfl | false => exact absurd e hw
    have hs : Jv.sidesD (sidesOf (Jv.linesD dw)) = true := by cases e : Jv.sidesD (sidesOf (Jv.linesD dw)) with | true => rfl | false => exact absurd e hs
    have ha : allEnt l dw = true := by cases e : allEnt l dw with | true => rfl | false => exact absurd e ha
    obtain ⟨i, ei, l0, l6⟩ := Jv.wholeD_int hw
    cases ei
    obtain ⟨p, q, eo, hp, hq, hpq⟩ := sides_some hs
    obtain ⟨rows, er, lr, hr⟩ := lines_some eo
    have hE : ∀ r ∈ rows, ∀ e ∈ (Jv.seqD r).getD [], entD l e = true := fun r hr e he => by
      unfold allEnt at ha
      rw [er] at ha
      exact List.all_eq_true.mp ha e (List.mem_flatMap.mpr ⟨r, hr, he⟩)
    have eL : linesOf dw = rows.map fun r => ((Jv.seqD r).getD []).map fun e => ((Jv.seqD e).getD []).map intOf := by unfold linesOf; rw [er]; rfl
    refine ⟨l, linesOf dw, p, q, rfl, ⟨rows, er, ?_⟩, l0, l6, by rw [eL, List.length_map, lr], ?_, hp.1, hp.2, hq.1, hq.2, hpq, ?_, ?_⟩
    · rw [eL]
      refine pair_to fun r hm => ?_
      obtain ⟨es, e1, _⟩ := hr r hm
      have h2 := hE r hm
      rw [e1] at h2 ⊢
      refine ⟨es, e1, pair_to fun e he => ?_⟩
      obtain ⟨ns, a1, _, _, a4⟩ := ent_ok (h2 e he)
      rw [a4]; exact a1
    · intro line hm
      rw [eL] at hm
      obtain ⟨r, hrm, rfl⟩ := List.mem_map.mp hm
      obtain ⟨es, e1, e2⟩ := hr r hrm
      rw [List.length_map, e1]; exact e2
    · intro line hm ns hn
      rw [eL] at hm
      obtain ⟨r, hrm, rfl⟩ := List.mem_map.mp hm
      obtain ⟨e, he, rfl⟩ := List.mem_map.mp hn
      obtain ⟨ns, _, a2, _, a4⟩ := ent_ok (hE r hrm e he)
      rw [a4]; exact a2
    · intro line hm ns hn
      rw [eL] at hm
      obtain ⟨r, hrm, rfl⟩ := List.mem_map.mp hm
      obtain ⟨e, he, rfl⟩ := List.mem_map.mp hn
      obtain ⟨ns, _, _, a3, a4⟩ := ent_ok (hE r hrm e he)
      rw [a4]; exact a3
  | _ => cases h
section
variable {P : Program} {w : World} {K : PySem.W.Frag} {mg : Str → Option Value} {base : Heap}
theorem ok_Ltuples (T : Tx) (O : Ok K mg T) : FnOk P w K mg base CX0 1 T.f_Ltuples T.d_Ltuples ["_law_lines"] (sp_Ltuples K) := by
  refine O.F_Ltuples.ok sc_Ltuples (fun vs H Q E h => by obtain ⟨_, _, rfl, _⟩ := h; rfl) (fun cdv A outer s H vs Q E hr h => ?_)
  obtain ⟨x, L, rfl, hx, ⟨f1, f2⟩, k⟩ := h
  refine ⟨_, (pss_one (ps_ret (pe_callTy (r := Jv.rTupOf K) call_tuple_of (by rfl) O.z_tuple (by decide +kernel) (pa_cons (pe_lc (own := [("_law_line", 1)]) (by rfl) sc_Ltuples.nd (Jv.piOr (show PI _ _ _ (iList K _) from pi_list (pv 0)) (show PI _ _ _ (iTup K _) from pi_tup (pv 0))) (blkOk_by (own := [("_law_line", 1)]) (N := ["_law_lines", "_law_line", "_law_entry"]) (sc := defScope s_Ltuples) (scope := ({ kind := .function, names := [(".0", .local), ("_law_line", .local), ("tuple", .globalImplicit)], isGenerator := false, isCoroutine := false } : Scope)) (by decide +kernel)) (fun _ _ _ _ _ => (pg_name (i := 1) sc_Ltuples.nd rfl (Or.inl rfl))) (fun _ _ _ _ _ => pts_nil) (fun _ _ _ _ _ => (pe_callTy (r := Jv.rTupOf K) call_tuple_of (by rfl) O.z_tuple (by decide +kernel) (pa_cons (pe_lc (own := [("_law_entry", 2)]) (by rfl) sc_Ltuples.nd (Jv.piOr (show PI _ _ _ (iList K _) from pi_list (pv 1)) (show PI _ _ _ (iTup K _) from pi_tup (pv 1))) (blkOk_by (own := [("_law_entry", 2)]) (N := ["_law_lines", "_law_line", "_law_entry"]) (sc := ({ kind := .function, names := [(".0", .local), ("_law_line", .local), ("tuple", .globalImplicit)], isGenerator := false, isCoroutine := false } : Scope)) (scope := ({ kind := .function, names := [(".0", .local), ("_law_entry", .local), ("tuple", .globalImplicit)], isGenerator := false, isCoroutine := false } : Scope)) (by decide +kernel)) (fun _ _ _ _ _ => (pg_name (i := 2) sc_Ltuples.nd rfl (Or.inl rfl))) (fun _ _ _ _ _ => pts_nil) (fun _ _ _ _ _ => (pe_callTy (r := Jv.rTupOf K) call_tuple_of (by rfl) O.z_tuple (by decide +kernel) (pa_cons (pv 2) pa_nil)))) pa_nil)))) pa_nil)))), ?_⟩
  walk_at "r"
  obtain ⟨ws, skW, alW⟩ := hx.sk rfl
  have lws := alW.len
  rw [List.length_map] at lws
  refine Jv.lcS2 (K := K) (N := []) (j := 1) (i := 0) rfl skW .nil (L.map rowT) (by rw [List.length_map]; omega) (by omega) (fun i v e D1 H6 hi hv he s6 hN1 hD1 PP hP => ?_) (fun D1 ys H6 s6 hD1 eD1 dv1 _ => ?_)
  · obtain ⟨dl, c1, c2⟩ := alW.at hv
    rw [List.getElem?_map] at c1
    obtain ⟨line, c3, rfl⟩ := Option.map_eq_some_iff.mp c1
    rw [List.getElem?_map, c3] at he
    obtain rfl := Option.some.inj he
    obtain ⟨f3, f4⟩ := f2 line (List.mem_of_getElem? c3)
    have c2h : Jv.Dv K (Jv.hide [] H) v (.list (line.map fun ns => .list (ns.map .int))) := by rw [Jv.hide_nil]; exact c2
    obtain ⟨us, skU, alU⟩ := (c2h.same (Jv.hide_more s6 hD1)).sk rfl
    have lus := alU.len
    rw [List.length_map] at lus
    walk_at "r"
    refine Jv.lcS2 (K := K) (N := [D1]) (j := 2) (i := 1) rfl (skU.same Jv.hide_le) hN1 (line.map fun ns => .tuple (ns.map .int)) (by rw [List.length_map]; omega) (by omega) (fun i2 u e2' D2 H7 hi2 hu he2 s7 hN2 hD2 PP2 hP2 => ?_) (fun D2 ys2 H7 s7 hD2 eD2 dv2 _ => ?_)
    · obtain ⟨dn, g1, g2⟩ := alU.at hu
      rw [List.getElem?_map] at g1
      obtain ⟨ns, g3, rfl⟩ := Option.map_eq_some_iff.mp g1
      rw [List.getElem?_map, g3] at he2
      obtain rfl := Option.some.inj he2
      have g4 := g2.same (Jv.hide_more s7 hD2)
      walk_at "r"
      cases g4 with
      | lst h q => exact Jv.r_tupOfL (Jv.sqL_at (Jv.hide_some h).2) fun t2 ht2 => hP2 _ _ (Jv.same_new ht2) (Jv.dv_new ht2 hN2 q)
    · walk_at "r"
      refine ⟨D2, _, rfl, .inl ⟨Jv.sqL_at eD2, fun t2 ht2 => ?_⟩⟩
      exact hP _ _ (s7.trans (Jv.same_new ht2)) (Jv.dv_new ht2 (hN1.same s7) dv2)
  · walk_at "r"
    refine ⟨D1, _, rfl, .inl ⟨Jv.sqL_at eD1, fun t2 ht2 => ?_⟩⟩
    rw [Jv.hide_nil] at dv1
    exact k _ _ (s6.trans (Jv.same_new ht2)) (.tup (Jv.sqT_at upd_same) (dv1.same (Jv.same_new ht2)))
theorem ok_Llists (T : Tx) (O : Ok K mg T) : FnOk P w K mg base CX0 1 T.f_Llists T.d_Llists ["_law_lines"] (sp_Llists K) := by
  refine O.F_Llists.ok sc_Llists (fun vs H Q E h => by obtain ⟨_, _, rfl, _⟩ := h; rfl) (fun cdv A outer s H vs Q E hr h => ?_)
  obtain ⟨x, L, rfl, hx, ⟨f1, f2⟩, k⟩ := h
  refine ⟨_, (pss_one (ps_ret (pe_lc (own := [("_law_line", 1)]) (by rfl) sc_Llists.nd (Jv.piOr (show PI _ _ _ (iList K _) from pi_list (pv 0)) (show PI _ _ _ (iTup K _) from pi_tup (pv 0))) (blkOk_by (own := [("_law_line", 1)]) (N := ["_law_lines", "_law_line", "_law_entry"]) (sc := defScope s_Llists) (scope := ({ kind := .function, names := [(".0", .local), ("_law_line", .local)], isGenerator := false, isCoroutine := false } : Scope)) (by decide +kernel)) (fun _ _ _ _ _ => (pg_name (i := 1) sc_Llists.nd rfl (Or.inl rfl))) (fun _ _ _ _ _ => pts_nil) (fun _ _ _ _ _ => (pe_lc (own := [("_law_entry", 2)]) (by rfl) sc_Llists.nd (Jv.piOr (show PI _ _ _ (iList K _) from pi_list (pv 1)) (show PI _ _ _ (iTup K _) from pi_tup (pv 1))) (blkOk_by (own := [("_law_entry", 2)]) (N := ["_law_lines", "_law_line", "_law_entry"]) (sc := ({ kind := .function, names := [(".0", .local), ("_law_line", .local)], isGenerator := false, isCoroutine := false } : Scope)) (scope := ({ kind := .function, names := [(".0", .local), ("_law_entry", .local), ("list", .globalImplicit)], isGenerator := false, isCoroutine := false } : Scope)) (by decide +kernel)) (fun _ _ _ _ _ => (pg_name (i := 2) sc_Llists.nd rfl (Or.inl rfl))) (fun _ _ _ _ _ => pts_nil) (fun _ _ _ _ _ => (pe_callTy (r := Jv.rListOf K) call_list_of (by rfl) O.z_list (by decide +kernel) (pa_cons (pv 2) pa_nil)))))))), ?_⟩
  walk_at "r"
  obtain ⟨ws, skW, alW⟩ := hx.sk rfl
  have lws := alW.len
  rw [List.length_map] at lws
  refine Jv.lcNew2 (K := K) (j := 1) (i := 0) rfl skW (L.map fun line => .list (line.map fun ns => .list (ns.map .int))) (by rw [List.length_map]; omega) (by omega) (fun i v e D1 H6 hi hv he s6 hD1 ⟨_, hD6⟩ PP hP => ?_) (fun D1 A H6 s6 ft fr => ?_)
  · obtain ⟨dl, c1, c2⟩ := alW.at hv
    rw [List.getElem?_map] at c1
    obtain ⟨line, c3, rfl⟩ := Option.map_eq_some_iff.mp c1
    rw [List.getElem?_map, c3] at he
    obtain rfl := Option.some.inj he
    obtain ⟨f3, f4⟩ := f2 line (List.mem_of_getElem? c3)
    obtain ⟨us, skU, alU⟩ := (c2.same s6).sk rfl
    have lus := alU.len
    rw [List.length_map] at lus
    refine Jv.lcNew2 (K := K) (j := 2) (i := 1) rfl skU (line.map fun ns => .list (ns.map .int)) (by rw [List.length_map]; omega) (by omega) (fun i2 u e2' D2 H7 hi2 hu he2 s7 hD2 ⟨_, hD7⟩ PP2 hP2 => ?_) (fun D2 B H7 s7 ft fr => ?_)
    · obtain ⟨dn, g1, g2⟩ := alU.at hu
      rw [List.getElem?_map] at g1
      obtain ⟨ns, g3, rfl⟩ := Option.map_eq_some_iff.mp g1
      rw [List.getElem?_map, g3] at he2
      obtain rfl := Option.some.inj he2
      have g4 := g2.same s7
      walk_at "r"
      cases g4 with
      | lst h q =>
        obtain rfl := Jv.dv_intsV q
        exact Jv.r_listOf (.inl (Jv.sqL_at h)) fun M hM => hP2 _ [M] _ (Jv.same_new hM) (.lst upd_same (Jv.FtAll.ints ns) (fun m => nomatch m)) fun a m => by rw [List.mem_singleton.mp m]; exact hM
    · exact hP _ B _ s7 ft fr
  · exact k D1 A _ s6 ft fr
theorem ok_Lmade (T : Tx) (O : Ok K mg T) : FnOk P w K mg base CX0 5 T.f_Lmade T.d_Lmade ["_law_ladder", "_law_lines"] (sp_Lmade K) := by
  refine O.F_Lmade.ok sc_Lmade (fun vs H Q E h => by obtain ⟨_, _, _, _, rfl, _⟩ := h; rfl) (fun cdv A outer s H vs Q E hr h => ?_)
  obtain ⟨xl, dl, xw, dw, rfl, hl, hw, fw, k⟩ := h
  refine ⟨_, (pss_one (ps_try_as (i := 2) rfl rfl sc_Lmade.nd rfl rfl ⟨rfl, by decide, .inl O.m_BadCosts⟩ takes0 (fun W pn xe tk _ => (pss_cons (ps_expr (Jv.pe_makeX O.k_Costs (ok_Costsu_initu T O) (hr.mono (by decide)) (by rfl) O.m_Costs O.b_Costsu_initu .nil (fun σ => passAt tk σ) (pa_cons (pv 0) (pa_cons (pv 1) pa_nil))))
  (pss_one (ps_ret pe_non)))) (fun a oe cls d pn hz hf => (pss_one (ps_ret (pe_xf O.x_BadCosts.f O.n_BadCosts_what hz hf (pv 2))))))), ?_⟩
  walk_at "r"
  refine Jv.r_makeX ?_
  walk_at "r"
  cases ef : faultC dl dw with
  | none =>
    obtain ⟨l, L, p, q, g⟩ := good_of ef
    rw [ef] at k
    exact mk_goodC (Q := fun _ H2 => Q .non H2) hl hw g fun r H' s' _ ga => k _ s'
  | some f =>
    rw [ef] at k
    refine mk_badC (Q := fun _ H2 => Q .non H2) hl hw fw ef fun e H1 s1 hd => ?_
    refine ⟨true, O.x_BadCosts.e, fun _ a ha => ?_, fun z => nomatch z⟩
    walk_at "r"
    refine ⟨_, rfl, rfl, rfl, e, _, _, rfl, hd, rfl, ?_⟩
    exact k _ s1
end
end K49

namespace K49
open PySem PySem.Spec PyProof.Rows L2
theorem _root_.Jv.wholeD_no {i : Int} (h : ¬ (0 ≤ i ∧ i ≤ 1000000)) : Jv.wholeD (.int i) (.int 0) (.int 1000000) = false := by
  cases e : Jv.wholeD (.int i) (.int 0) (.int 1000000) with
  | false => rfl
  | true => obtain ⟨j, ei, a, b⟩ := Jv.wholeD_int e; cases ei; exact absurd ⟨a, b⟩ h
section
variable {P : Program} {w : World} {K : PySem.W.Frag} {mg : Str → Option Value} {base : Heap}
theorem ok_Ldue (T : Tx) (O : Ok K mg T) : FnOk P w K mg base CX0 2 T.f_Ldue T.d_Ldue ["_law_ladder", "_law_lines"] (sp_Lmade K) := by
  refine O.F_Ldue.ok sc_Ldue (fun vs H Q E h => by obtain ⟨_, _, _, _, rfl, _⟩ := h; rfl) (fun cdv A outer s H vs Q E hr h => ?_)
  obtain ⟨xl, dl, xw, dw, rfl, hl, hw, fw, k⟩ := h
  refine ⟨_, (pss_cons (ps_if (PW.pt (pw_or (pt_not (pt_val (pe_call (ok_Lwhole T O) (hr.mono (by decide)) (by rfl) O.m_Lwhole O.F_Lwhole.kp O.b_Lwhole .nil pass0 (pa_cons (pv 0) pa_nil)))) (pw_or1 (pt_not (pt_chain op_le op_le pe_int (pv 0) pe_int))))) (pss_one (ps_ret pe_str)) pss_nil)
  (pss_cons (ps_if (PW.pt (pw_or (pt_not (pt_val (pe_callB (r := rIsiT K) call_isiT (by rfl) O.z_isinstance (by decide +kernel) (pa_cons (pv 1) (pa_cons (pe_tup (pa_cons (pe_bltn (v := .ty "list") (by rfl) O.z_list (by decide +kernel) rfl) (pa_cons (pe_bltn (v := .ty "tuple") (by rfl) O.z_tuple (by decide +kernel) rfl) pa_nil))) pa_nil))))) (pw_or1 (pt_not (pt_chain op_le op_le pe_int (pe_callB (r := Jv.rLenK K) Jv.cr_len (by rfl) O.z_len (by decide +kernel) (pa_cons (pv 1) pa_nil)) pe_int))))) (pss_one (ps_ret pe_str)) pss_nil)
  (pss_cons (ps_for PassesOwn.never rfl (Jv.piOr (show PI _ _ _ (iList K _) from pi_list (pv 1)) (show PI _ _ _ (iTup K _) from pi_tup (pv 1))) (pg_name (i := 2) sc_Ldue.nd rfl (Or.inl rfl)) (pss_one (ps_if (PW.pt (pw_or (pt_not (pt_val (pe_callB (r := rIsiT K) call_isiT (by rfl) O.z_isinstance (by decide +kernel) (pa_cons (pv 2) (pa_cons (pe_tup (pa_cons (pe_bltn (v := .ty "list") (by rfl) O.z_list (by decide +kernel) rfl) (pa_cons (pe_bltn (v := .ty "tuple") (by rfl) O.z_tuple (by decide +kernel) rfl) pa_nil))) pa_nil))))) (pw_or (pt_not (pt_chain op_le op_le pe_int (pe_callB (r := Jv.rLenK K) Jv.cr_len (by rfl) O.z_len (by decide +kernel) (pa_cons (pv 2) pa_nil)) pe_int)) (pw_or1 (pt_cmpR op_ne (pe_callB (r := Jv.rLenK K) Jv.cr_len (by rfl) O.z_len (by decide +kernel) (pa_cons (pv 2) pa_nil)) (pe_callB (r := Jv.rLenK K) Jv.cr_len (by rfl) O.z_len (by decide +kernel) (pa_cons (pe_ix (r := rIx K) ix_seq (pv 1) pe_int (fun _ _ => rfl)) pa_nil)) (nomark _)))))) (pss_one (ps_ret pe_str)) pss_nil)))
  (pss_cons (ps_if (pt_cmpR op_gt (pe_op op_mul (pe_callB (r := Jv.rLenK K) Jv.cr_len (by rfl) O.z_len (by decide +kernel) (pa_cons (pv 1) pa_nil)) (pe_callB (r := Jv.rLenK K) Jv.cr_len (by rfl) O.z_len (by decide +kernel) (pa_cons (pe_ix (r := rIx K) ix_seq (pv 1) pe_int (fun _ _ => rfl)) pa_nil))) pe_int (nomark _)) (pss_one (ps_ret pe_str)) pss_nil)
  (pss_cons (ps_for PassesOwn.never rfl (Jv.piOr (show PI _ _ _ (iList K _) from pi_list (pv 1)) (show PI _ _ _ (iTup K _) from pi_tup (pv 1))) (pg_name (i := 2) sc_Ldue.nd rfl (Or.inl rfl)) (pss_one (ps_for PassesOwn.never rfl (Jv.piOr (show PI _ _ _ (iList K _) from pi_list (pv 2)) (show PI _ _ _ (iTup K _) from pi_tup (pv 2))) (pg_name (i := 3) sc_Ldue.nd rfl (Or.inl rfl)) (pss_cons (ps_if (PW.pt (pw_or (pt_not (pt_val (pe_callB (r := rIsiT K) call_isiT (by rfl) O.z_isinstance (by decide +kernel) (pa_cons (pv 3) (pa_cons (pe_tup (pa_cons (pe_bltn (v := .ty "list") (by rfl) O.z_list (by decide +kernel) rfl) (pa_cons (pe_bltn (v := .ty "tuple") (by rfl) O.z_tuple (by decide +kernel) rfl) pa_nil))) pa_nil))))) (pw_or1 (pt_cmpR op_ne (pe_callB (r := Jv.rLenK K) Jv.cr_len (by rfl) O.z_len (by decide +kernel) (pa_cons (pv 3) pa_nil)) (pe_op op_add (pv 0) pe_int) (nomark _))))) (pss_one (ps_ret pe_str)) pss_nil)
  (pss_one (ps_for PassesOwn.never rfl (Jv.piOr (show PI _ _ _ (iList K _) from pi_list (pv 3)) (show PI _ _ _ (iTup K _) from pi_tup (pv 3))) (pg_name (i := 4) sc_Ldue.nd rfl (Or.inl rfl)) (pss_one (ps_if (PW.pt (pw_or (pt_not (pt_val (pe_call (ok_Lwhole T O) (hr.mono (by decide)) (by rfl) O.m_Lwhole O.F_Lwhole.kp O.b_Lwhole .nil pass0 (pa_cons (pv 4) pa_nil)))) (pw_or1 (pt_not (pt_chain op_le op_le pe_int (pv 4) (pe_op op_pow pe_int pe_int)))))) (pss_one (ps_ret pe_str)) pss_nil))))))))
  (pss_one (ps_ret pe_non))))))), ?_⟩
  have kb : ∀ f H', faultC dl dw = some f → Same H H' → Q (.str f) H' := fun f H' e s => by have := k H' s; rw [e] at this; exact this
  have kn : faultC dl dw = none → ∀ H', Same H H' → Q .non H' := fun e H' s => by have := k H' s; rw [e] at this; exact this
  walk_at "r"
  refine ⟨_, _, rfl, hl, ?_⟩
  by_cases hi : ∃ l, dl = .int l
  · obtain ⟨l, rfl⟩ := hi
    cases hl
    walk_at "r"
    have e0 : ¬ (0 ≤ l ∧ l ≤ 6) → faultC (.int l) dw = some ("ladder" : Str) := fun n => by
      unfold faultC
      dsimp only
      rw [if_pos]
      cases e : Jv.wholeD (.int l) (.int 0) (.int 6) with
      | false => rfl
      | true => obtain ⟨i, ei, a, b⟩ := Jv.wholeD_int e; cases ei; exact absurd ⟨a, b⟩ n
    refine Jv.r_dec (fun l0 => ?_) (fun l0 => ?_)
    case refine_2 =>
      walk_at "r"
      exact kb _ _ (e0 (by omega)) (Same.refl _)
    walk_at "r"
    refine Jv.r_ndec (fun l6 => ?_) (fun l6 => ?_)
    · walk_at "r"
      exact kb _ _ (e0 (by omega)) (Same.refl _)
    walk_at "r"
    intro t1 ht1
    have n1 := Jv.same_new (u := .tup [.ty "list", .ty "tuple"]) ht1
    have hw1 := hw.same n1
    walk_at "r"
    have ew : Jv.wholeD (.int l) (.int 0) (.int 6) = true := by
      show (decide (0 ≤ l) && decide (l ≤ 6)) = true
      rw [decide_eq_true l0, decide_eq_true l6]; rfl
    have fG : ∀ x, faultC (.int l) dw = x ↔ (if Jv.sidesD (sidesOf (Jv.linesD dw)) = false then some ("sides" : Str) else if allEnt l dw = false then some ("cost" : Str) else none) = x := fun x => by
      unfold faultC
      dsimp only
      rw [ew, if_neg (by decide)]
    have sd : (∀ p q : Nat, Jv.linesD dw = some (p, q) → (1 ≤ p ∧ p ≤ 6) → (1 ≤ q ∧ q ≤ 6) → p * q ≤ 12 → False) → faultC (.int l) dw = some ("sides" : Str) := fun n => by
      rw [fG, if_pos]
      cases e : Jv.sidesD (sidesOf (Jv.linesD dw)) with
      | false => rfl
      | true => obtain ⟨p, q, e1, e2, e3, e4⟩ := sides_some e; exact (n p q e1 e2 e3 e4).elim
    cases er : Jv.seqD dw with
    | none =>
      walk_at "r"
      refine kb _ _ (sd fun p q e _ _ _ => ?_) n1
      obtain ⟨rows, e2, _⟩ := lines_some e
      rw [er] at e2; cases e2
    | some rows =>
    obtain ⟨fr1, fr2⟩ := fw rows er
    obtain ⟨xs, skw, alw⟩ := hw1.sk er
    have lxs := alw.len
    have noS : (rows.length < 1 ∨ 6 < rows.length) → faultC (.int l) dw = some ("sides" : Str) := fun n => sd fun p q e hp _ _ => by
      obtain ⟨rows', e2, e3, _⟩ := lines_some e
      rw [er] at e2; cases e2
      omega
    walk_at "r"
    refine skw.len ?_
    walk_at "r"
    refine Jv.r_dec (fun c0 => ?_) (fun c0 => ?_)
    case refine_2 =>
      walk_at "r"
      exact kb _ _ (noS (by omega)) n1
    walk_at "r"
    refine Jv.r_ndec (fun c6 => ?_) (fun c6 => ?_)
    · walk_at "r"
      exact kb _ _ (noS (by omega)) n1
    walk_at "r"
    obtain ⟨r0, rest, hrw⟩ : ∃ r0 rest, rows = r0 :: rest := by
      have c1 : 1 ≤ rows.length := by omega
      cases rows with
      | nil => simp at c1
      | cons a r => exact ⟨a, r, rfl⟩
    have h00 : rows[0]? = some r0 := by rw [hrw]; rfl
    obtain ⟨v0, hv0, dv0⟩ := alw.of h00
    have noRow : ∀ r ∈ rows, (∀ q : Nat, (∃ es, Jv.seqD r = some es ∧ es.length = q) → (∃ es0, Jv.seqD r0 = some es0 ∧ es0.length = q) → 1 ≤ q → q ≤ 6 → False) → faultC (.int l) dw = some ("sides" : Str) := fun r hm n => sd fun p q e hp hq _ => by
      obtain ⟨rows', e2, e3, e4⟩ := lines_some e
      rw [er] at e2; cases e2
      exact n q (e4 r hm) (e4 r0 (List.mem_of_getElem? h00)) hq.1 hq.2
    refine Jv.for_sk (i := 1) rfl skw (fun j σ H2 => ∃ y2, σ = [some (.int l), some xw, y2, none, none] ∧ Same (upd H t1 (.tup [.ty "list", .ty "tuple"])) H2 ∧ ∀ r ∈ rows.take j, ∃ es, Jv.seqD r = some es ∧ (1 ≤ es.length ∧ es.length ≤ 6) ∧ ∃ es0, Jv.seqD r0 = some es0 ∧ es.length = es0.length)
      ⟨_, rfl, fun _ _ e => e, fun _ hm => (by simp at hm)⟩ (fun j σ' H' ⟨_, _, s, _⟩ => s) ?_ ?_
    · rintro j v σ H2 hv ⟨y2, rfl, s2, ok⟩
      obtain ⟨r, hr, dr⟩ := alw.at hv
      have hrm := List.mem_of_getElem? hr
      walk_at "r"
      intro t2 ht2
      have n2 := Jv.same_new (u := .tup [.ty "list", .ty "tuple"]) ht2
      have dr2 := (dr.same s2).same n2
      have sx := n1.trans (s2.trans n2)
      walk_at "r"
      cases er2 : Jv.seqD r with
      | none =>
        walk_at "r"
        exact kb _ _ (noRow r hrm fun q ⟨es, h, _⟩ _ _ _ => by rw [er2] at h; cases h) sx
      | some es =>
      obtain ⟨us, sku, alu⟩ := dr2.sk er2
      have lus := alu.len
      walk_at "r"
      refine sku.len ?_
      walk_at "r"
      refine Jv.r_dec (fun d0 => ?_) (fun d0 => ?_)
      case refine_2 =>
        walk_at "r"
        exact kb _ _ (noRow r hrm fun q ⟨es2, h, h2⟩ _ h3 _ => by rw [er2] at h; cases h; omega) sx
      walk_at "r"
      refine Jv.r_ndec (fun d6 => ?_) (fun d6 => ?_)
      · walk_at "r"
        exact kb _ _ (noRow r hrm fun q ⟨es2, h, h2⟩ _ _ h4 => by rw [er2] at h; cases h; omega) sx
      walk_at "r"
      refine sku.len ?_
      walk_at "r"
      refine ((skw.same s2).same n2).ix (Jv.at_i (k := 0) (by decide) hv0) ?_
      walk_at "r"
      obtain ⟨es0, he0⟩ : ∃ es0, Jv.seqD r0 = some es0 := by
        cases j with
        | zero => rw [h00] at hr; cases hr; exact ⟨es, er2⟩
        | succ j =>
          obtain ⟨_, _, _, es0, h, _⟩ := ok r0 (by rw [hrw]; exact List.mem_cons_self)
          exact ⟨es0, h⟩
      obtain ⟨us0, sk0, al0⟩ := ((dv0.same s2).same n2).sk he0
      have lu0 := al0.len
      refine sk0.len ?_
      walk_at "r"
      refine Jv.r_ndecI (fun ne => ?_) (fun eq => ?_)
      · walk_at "r"
        exact kb _ _ (noRow r hrm fun q ⟨es2, h, h2⟩ ⟨es3, h3, h4⟩ _ _ => by rw [er2] at h; cases h; rw [he0] at h3; cases h3; omega) sx
      · walk_at "r"
        refine ⟨_, rfl, s2.trans n2, fun r' hm' => ?_⟩
        rw [Jv.take_more hr] at hm'
        rcases List.mem_append.mp hm' with hm' | hm'
        · exact ok r' hm'
        · rw [List.mem_singleton.mp hm']
          exact ⟨es, er2, ⟨by omega, by omega⟩, es0, he0, by omega⟩
    · rintro σ H2 ⟨y2, rfl, s2, ok⟩
      rw [lxs, List.take_of_length_le (Nat.le_refl _)] at ok
      obtain ⟨es0, he0, c2, _⟩ := ok r0 (List.mem_of_getElem? h00)
      obtain ⟨us0, sk0, al0⟩ := (dv0.same s2).sk he0
      have lu0 := al0.len
      have lin : Jv.linesD dw = some (rows.length, es0.length) := by
        unfold Jv.linesD
        rw [er]; dsimp only
        have hall : (rows.all fun e => (Jv.seqD e).isSome) = true := List.all_eq_true.mpr fun r hm => by
          obtain ⟨es, h, _⟩ := ok r hm
          rw [h]; rfl
        rw [hall, if_pos rfl]
        have e1 : rows.map (fun e => ((Jv.seqD e).getD []).length) = List.replicate rows.length es0.length := by
          refine List.eq_replicate_iff.mpr ⟨by rw [List.length_map], fun m hm => ?_⟩
          obtain ⟨r, hr, rfl⟩ := List.mem_map.mp hm
          obtain ⟨es, h, _, es1, h1, h2⟩ := ok r hr
          rw [he0] at h1; cases h1
          rw [h]; exact h2
        rw [e1, hrw, List.length_cons, List.replicate_succ]
        dsimp only
        rw [if_pos (List.all_eq_true.mpr fun m hm => decide_eq_true (List.eq_of_mem_replicate hm)), List.length_replicate]
      walk_at "r"
      refine (skw.same s2).len ?_
      walk_at "r"
      refine (skw.same s2).ix (Jv.at_i (k := 0) (by decide) hv0) ?_
      walk_at "r"
      refine sk0.len ?_
      walk_at "r"
      have s02 := n1.trans s2
      refine Jv.r_dec (fun big => ?_) (fun big => ?_)
      · walk_at "r"
        refine kb _ _ (sd fun p q e _ _ h => ?_) s02
        rw [lin] at e; cases e
        rw [← lxs, ← lu0] at h
        have h2 : ((xs.length * us0.length : Nat) : Int) ≤ 12 := by exact_mod_cast h
        rw [Int.natCast_mul] at h2
        exact Int.not_lt.mpr h2 big
      have hs : Jv.sidesD (sidesOf (Jv.linesD dw)) = true := by
        rw [lin]
        show decide _ = true
        have h2 := Int.not_lt.mp big
        rw [lxs, lu0] at h2
        exact decide_eq_true ⟨⟨by omega, by omega⟩, ⟨by omega, by omega⟩, h2⟩
      have fE : ∀ x, faultC (.int l) dw = x ↔ (if allEnt l dw = false then some ("cost" : Str) else none) = x := fun x => by rw [fG, hs, if_neg (by decide)]
      have noE : ∀ r ∈ rows, ∀ e es, Jv.seqD r = some es → e ∈ es → entD l e = false → faultC (.int l) dw = some ("cost" : Str) := fun r hm e es h1 h2 h3 => by
        rw [fE, if_pos]
        cases ha : allEnt l dw with
        | false => rfl
        | true =>
          unfold allEnt at ha
          rw [er] at ha
          have := List.all_eq_true.mp ha e (List.mem_flatMap.mpr ⟨r, hm, by rw [h1]; exact h2⟩)
          rw [h3] at this; cases this
      walk_at "r"
      refine Jv.for_sk (i := 1) rfl (skw.same s2) (fun j σ H3 => ∃ y2 y3 y4, σ = [some (.int l), some xw, y2, y3, y4] ∧ Same H2 H3 ∧ ∀ r ∈ rows.take j, ∀ es, Jv.seqD r = some es → ∀ e ∈ es, entD l e = true)
        ⟨_, _, _, rfl, fun _ _ e => e, fun _ hm => (by simp at hm)⟩ (fun j σ' H' ⟨_, _, _, _, s, _⟩ => s) ?_ ?_
      · rintro j v σ H3 hv ⟨y2', y3, y4, rfl, s3, okE⟩
        obtain ⟨r, hr, dr⟩ := alw.at hv
        have hrm := List.mem_of_getElem? hr
        obtain ⟨es, he, _⟩ := ok r hrm
        obtain ⟨us, sku, alu⟩ := ((dr.same s2).same s3).sk he
        have lus := alu.len
        walk_at "r"
        refine Jv.for_sk (i := 2) rfl sku (fun j2 σ H4 => ∃ y3 y4, σ = [some (.int l), some xw, some v, y3, y4] ∧ Same H3 H4 ∧ ∀ e ∈ es.take j2, entD l e = true)
          ⟨_, _, rfl, fun _ _ e => e, fun _ hm => (by simp at hm)⟩ (fun j σ' H' ⟨_, _, _, s, _⟩ => s) ?_ ?_
        · rintro j2 u σ H4 hu ⟨y3', y4', rfl, s4, okD⟩
          obtain ⟨e, hee, du⟩ := alu.at hu
          have hem := List.mem_of_getElem? hee
          walk_at "r"
          intro t5 ht5
          have n5 := Jv.same_new (u := .tup [.ty "list", .ty "tuple"]) ht5
          have du5 := (du.same s4).same n5
          have sx := s02.trans (s3.trans (s4.trans n5))
          walk_at "r"
          cases ed : Jv.seqD e with
          | none =>
            walk_at "r"
            exact kb _ _ (noE r hrm e es he hem (by unfold entD; rw [ed])) sx
          | some ds =>
          obtain ⟨zs, skz, alz⟩ := du5.sk ed
          have lzs := alz.len
          have enD : entD l e = (decide ((ds.length : Int) = l + 1) && ds.all fun e => Jv.wholeD e (.int 0) (.int 1000000)) := by unfold entD; rw [ed]
          walk_at "r"
          refine skz.len ?_
          walk_at "r"
          refine Jv.r_ndecI (fun ne => ?_) (fun eq => ?_)
          · walk_at "r"
            exact kb _ _ (noE r hrm e es he hem (by rw [enD, decide_eq_false (by omega), Bool.false_and])) sx
          walk_at "r"
          refine Jv.for_sk (i := 3) rfl skz (fun j3 σ H6 => ∃ y4, σ = [some (.int l), some xw, some v, some u, y4] ∧ Same (upd H4 t5 (.tup [.ty "list", .ty "tuple"])) H6 ∧ ∀ d ∈ ds.take j3, Jv.wholeD d (.int 0) (.int 1000000) = true)
            ⟨_, rfl, fun _ _ e => e, fun _ hm => (by simp at hm)⟩ (fun j σ' H' ⟨_, _, s, _⟩ => s) ?_ ?_
          · rintro j3 z σ H6 hz ⟨y4'', rfl, s6, okW⟩
            obtain ⟨d, hd, dz⟩ := alz.at hz
            have hdm := List.mem_of_getElem? hd
            have sy := sx.trans s6
            have bad : Jv.wholeD d (.int 0) (.int 1000000) = false → faultC (.int l) dw = some ("cost" : Str) := fun h => noE r hrm e es he hem (by
              rw [enD]
              rw [Bool.and_eq_false_iff]
              refine .inr ?_
              cases h9 : (ds.all fun e => Jv.wholeD e (.int 0) (.int 1000000)) with
              | false => rfl
              | true => have := List.all_eq_true.mp h9 d hdm; rw [h] at this; cases this)
            walk_at "r"
            refine ⟨_, _, rfl, dz.same s6, ?_⟩
            by_cases hi : ∃ i, d = .int i
            · obtain ⟨i, rfl⟩ := hi
              cases dz
              walk_at "r"
              refine Jv.r_dec (fun i0 => ?_) (fun i0 => ?_)
              case refine_2 =>
                walk_at "r"
                exact kb _ _ (bad (Jv.wholeD_no (by omega))) sy
              walk_at "r"
              refine Jv.r_ndec (fun i6 => ?_) (fun i6 => ?_)
              · walk_at "r"
                rw [show ((10 : Int) ^ Int.toNat 6) = 1000000 from by decide] at i6
                exact kb _ _ (bad (Jv.wholeD_no (by omega))) sy
              rw [show ((10 : Int) ^ Int.toNat 6) = 1000000 from by decide] at i6
              walk_at "r"
              refine ⟨_, rfl, s6, fun d' hm' => ?_⟩
              rw [Jv.take_more hd] at hm'
              rcases List.mem_append.mp hm' with hm' | hm'
              · exact okW d' hm'
              · rw [List.mem_singleton.mp hm']
                show (decide (0 ≤ i) && decide (i ≤ 1000000)) = true
                rw [decide_eq_true i0, decide_eq_true (show i ≤ 1000000 from i6)]; rfl
            · have e2 : Jv.intD d = false := by
                cases d with
                | int l => exact absurd ⟨l, rfl⟩ hi
                | _ => rfl
              have e3 : Jv.wholeD d (.int 0) (.int 1000000) = false := by
                cases d with
                | int l => exact absurd ⟨l, rfl⟩ hi
                | _ => rfl
              rw [e2]
              walk_at "r"
              exact kb _ _ (bad e3) sy
          · rintro σ H6 ⟨y4'', rfl, s6, okW⟩
            rw [lzs, List.take_of_length_le (Nat.le_refl _)] at okW
            walk_at "r"
            refine ⟨_, _, rfl, s4.trans (n5.trans s6), fun e' hm' => ?_⟩
            rw [Jv.take_more hee] at hm'
            rcases List.mem_append.mp hm' with hm' | hm'
            · exact okD e' hm'
            · rw [List.mem_singleton.mp hm', enD, decide_eq_true (by omega), Bool.true_and]
              exact List.all_eq_true.mpr okW
        · rintro σ H4 ⟨y3', y4', rfl, s4, okD⟩
          rw [lus, List.take_of_length_le (Nat.le_refl _)] at okD
          walk_at "r"
          refine ⟨_, _, _, rfl, s3.trans s4, fun r' hm' => ?_⟩
          rw [Jv.take_more hr] at hm'
          rcases List.mem_append.mp hm' with hm' | hm'
          · exact okE r' hm'
          · rw [List.mem_singleton.mp hm']
            intro es' h
            rw [he] at h; cases h
            exact okD
      · rintro σ H3 ⟨y2', y3, y4, rfl, s3, okE⟩
        rw [lxs, List.take_of_length_le (Nat.le_refl _)] at okE
        walk_at "r"
        refine kn ?_ _ (s02.trans s3)
        rw [fE, if_neg]
        rw [Bool.not_eq_false]
        unfold allEnt
        rw [er]
        refine List.all_eq_true.mpr fun e hm => ?_
        obtain ⟨r, hr, he⟩ := List.mem_flatMap.mp hm
        obtain ⟨es, h, _⟩ := ok r hr
        rw [h] at he
        exact okE r hr es h e he
  · have e1 : faultC dl dw = some ("ladder" : Str) := by
      cases dl with
      | int l => exact absurd ⟨l, rfl⟩ hi
      | _ => rfl
    have e2 : Jv.intD dl = false := by
      cases dl with
      | int l => exact absurd ⟨l, rfl⟩ hi
      | _ => rfl
    rw [e2]
    walk_at "r"
    exact kb _ _ e1 (Same.refl _)
end
end K49

namespace K49
open PySem PySem.Spec PyProof.Rows L2
/-! ### costs as the law draws them -/
def entL (ns : List Int) : PyData := .list (ns.map .int)
def rowLL (line : List (List Int)) : PyData := .list (line.map entL)
theorem linLL_eq {L : List (List (List Int))} : linLL L = .list (L.map rowLL) := rfl
def EntOk (l : Int) (ns : List Int) : Prop := (ns.length : Int) = l + 1 ∧ ∀ n ∈ ns, 0 ≤ n ∧ n ≤ 1000000
theorem _root_.Jv.Kp.hideM {p : Addr} {H H' : Hp} {N : List Addr} (k : Jv.Kp p H H') (m : p ∈ N) : Same (Jv.hide N H) (Jv.hide N H') := fun b o e => by
  obtain ⟨n, e2⟩ := Jv.hide_some e
  exact Jv.hide_at n (k b o (fun h => n (by rw [h]; exact m)) e2)
def sp_Ldrawn (K : PySem.W.Frag) : Sp := fun vs H Q _ => ∃ h hl, vs = [.ref h] ∧ Jv.Hand H h hl ∧ ∀ r s x l L H', ∀ p q : Nat, Gc l L p q → Jv.Kp h H H' → Jv.Hand H' h hl → H' r = some (.tup [.ref s, .int l, x]) → H' s = some (.tup [.int p, .int q]) → Jv.Dv K (Jv.hide [h] H') x (linLL L) → Q (.ref r) H'
theorem _root_.Jv.Hand.neT {H : Hp} {p l b : Addr} {xs : List V} (h : Jv.Hand H p l) (e : H b = some (.tup xs)) : b ≠ p := by
  obtain ⟨ns, k, c, t, hA⟩ := h
  exact fun z => by rw [z, hA.hp] at e; cases e
section
variable {P : Program} {w : World} {K : PySem.W.Frag} {mg : Str → Option Value} {base : Heap}
theorem ok_Ldrawn (T : Tx) (O : Ok K mg T) : FnOk P w K mg base CX0 3 T.f_Ldrawn T.d_Ldrawn ["_law_hand_here"] (sp_Ldrawn K) := by
  refine O.F_Ldrawn.ok sc_Ldrawn (fun vs H Q E h => by obtain ⟨_, _, rfl, _⟩ := h; rfl) (fun cdv A outer s H vs Q E hr h => ?_)
  obtain ⟨h, hl, rfl, hh, k⟩ := h
  refine ⟨_, (C8.pss_cut (ps_set (i := 1) sc_Ldrawn.nd rfl (Or.inl rfl) (pe_ix (r := rIxL K) ix_list (pe_lst (pa_cons (pe_tup (pa_cons pe_int (pa_cons pe_int pa_nil))) (pa_cons (pe_tup (pa_cons pe_int (pa_cons pe_int pa_nil))) (pa_cons (pe_tup (pa_cons pe_int (pa_cons pe_int pa_nil))) (pa_cons (pe_tup (pa_cons pe_int (pa_cons pe_int pa_nil))) (pa_cons (pe_tup (pa_cons pe_int (pa_cons pe_int pa_nil))) (pa_cons (pe_tup (pa_cons pe_int (pa_cons pe_int pa_nil))) (pa_cons (pe_tup (pa_cons pe_int (pa_cons pe_int pa_nil))) (pa_cons (pe_tup (pa_cons pe_int (pa_cons pe_int pa_nil))) pa_nil))))))))) (pe_call (ok_Ldraw T O) (hr.mono (by decide)) (by rfl) O.m_Ldraw O.F_Ldraw.kp O.b_Ldraw .nil pass0 (pa_cons (pv 0) (pa_cons pe_int pa_nil))) (fun _ _ => rfl)))
  (pss_cons (ps_set (i := 2) sc_Ldrawn.nd rfl (Or.inl rfl) (pe_call (ok_Ldraw T O) (hr.mono (by decide)) (by rfl) O.m_Ldraw O.F_Ldraw.kp O.b_Ldraw .nil pass0 (pa_cons (pv 0) (pa_cons pe_int pa_nil))))
  (C8.pss_cut (ps_set (i := 3) sc_Ldrawn.nd rfl (Or.inl rfl) (pe_ix (r := rIxL K) ix_list (pe_lst (pa_cons pe_int (pa_cons pe_int (pa_cons (pe_op op_pow pe_int pe_int) (pa_cons (pe_op op_pow pe_int pe_int) pa_nil))))) (pe_call (ok_Ldraw T O) (hr.mono (by decide)) (by rfl) O.m_Ldraw O.F_Ldraw.kp O.b_Ldraw .nil pass0 (pa_cons (pv 0) (pa_cons pe_int pa_nil))) (fun _ _ => rfl)))
  (pss_cons (ps_set (i := 4) sc_Ldrawn.nd rfl (Or.inl rfl) (pe_lst pa_nil))
  (pss_cons (ps_for PassesOwn.never rfl (pi_range1 (by rfl) O.z_range (pa_cons (pe_ix (r := rIx K) ix_seq (pv 1) pe_int (fun _ _ => rfl)) pa_nil)) (pg_name (i := 5) sc_Ldrawn.nd rfl (Or.inl rfl)) (pss_cons (ps_set (i := 6) sc_Ldrawn.nd rfl (Or.inl rfl) (pe_lst pa_nil))
  (pss_cons (ps_for PassesOwn.never rfl (pi_range1 (by rfl) O.z_range (pa_cons (pe_ix (r := rIx K) ix_seq (pv 1) pe_int (fun _ _ => rfl)) pa_nil)) (pg_name (i := 7) sc_Ldrawn.nd rfl (Or.inl rfl)) (pss_cons (ps_set (i := 8) sc_Ldrawn.nd rfl (Or.inl rfl) (pe_lst pa_nil))
  (pss_cons (ps_for PassesOwn.never rfl (pi_range1 (by rfl) O.z_range (pa_cons (pe_op op_add (pv 2) pe_int) pa_nil)) (pg_name (i := 9) sc_Ldrawn.nd rfl (Or.inl rfl)) (pss_one (ps_expr (show PE _ _ (tBM K _ _ _ _) from pe_bm PySem.F.plainAttrs_list PySem.F.slot_list_append PySem.F.type_list_append mt_append (pv 8) (pa_cons (pe_ifExp (PW.pt (pw_and (pt_cmpR op_eq (pv 3) (pe_op op_pow pe_int pe_int) (nomark _)) (pw_and1 (pt_cmpR op_eq (pe_call (ok_Ldraw T O) (hr.mono (by decide)) (by rfl) O.m_Ldraw O.F_Ldraw.kp O.b_Ldraw .nil pass0 (pa_cons (pv 0) (pa_cons pe_int pa_nil))) pe_int (nomark _))))) (pe_op op_pow pe_int pe_int) (pe_call (ok_Ldraw T O) (hr.mono (by decide)) (by rfl) O.m_Ldraw O.F_Ldraw.kp O.b_Ldraw .nil pass0 (pa_cons (pv 0) (pa_cons (pe_op op_add (pv 3) pe_int) pa_nil)))) pa_nil)))))
  (pss_one (ps_expr (show PE _ _ (tBM K _ _ _ _) from pe_bm PySem.F.plainAttrs_list PySem.F.slot_list_append PySem.F.type_list_append mt_append (pv 6) (pa_cons (pv 8) pa_nil)))))))
  (pss_one (ps_expr (show PE _ _ (tBM K _ _ _ _) from pe_bm PySem.F.plainAttrs_list PySem.F.slot_list_append PySem.F.type_list_append mt_append (pv 4) (pa_cons (pv 6) pa_nil)))))))
  (pss_one (ps_ret (pe_tup (pa_cons (pv 1) (pa_cons (pv 2) (pa_cons (pv 4) pa_nil))))))))))), ?_⟩
  walk_at "r"
  refine ⟨fun σ H' => ∃ s, ∃ p q : Nat, (1 ≤ p ∧ p ≤ 6) ∧ (1 ≤ q ∧ q ≤ 6) ∧ p * q ≤ 12 ∧ σ = [some (.ref h), some (.ref s), none, none, none, none, none, none, none, none] ∧ H' s = some (.tup [.int p, .int q]) ∧ Jv.Kp h H H' ∧ Jv.Hand H' h hl, ?_, ?_⟩
  · walk_at "r"
    intro t1 h1
    obtain ⟨G1, e1, s1, f1⟩ : ∃ G, upd H t1 (.tup [.int 2, .int 2]) = G ∧ Same H G ∧ G t1 = some (.tup [.int 2, .int 2]) := ⟨_, rfl, Jv.same_new h1, upd_same⟩
    rw [e1]
    clear e1 h1
    walk_at "r"
    intro t2 h2
    obtain ⟨G2, e2, s2, f2⟩ : ∃ G, upd G1 t2 (.tup [.int 1, .int 1]) = G ∧ Same G1 G ∧ G t2 = some (.tup [.int 1, .int 1]) := ⟨_, rfl, Jv.same_new h2, upd_same⟩
    rw [e2]
    clear e2 h2
    walk_at "r"
    intro t3 h3
    obtain ⟨G3, e3, s3, f3⟩ : ∃ G, upd G2 t3 (.tup [.int 3, .int 4]) = G ∧ Same G2 G ∧ G t3 = some (.tup [.int 3, .int 4]) := ⟨_, rfl, Jv.same_new h3, upd_same⟩
    rw [e3]
    clear e3 h3
    walk_at "r"
    intro t4 h4
    obtain ⟨G4, e4, s4, f4⟩ : ∃ G, upd G3 t4 (.tup [.int 6, .int 2]) = G ∧ Same G3 G ∧ G t4 = some (.tup [.int 6, .int 2]) := ⟨_, rfl, Jv.same_new h4, upd_same⟩
    rw [e4]
    clear e4 h4
    walk_at "r"
    intro t5 h5
    obtain ⟨G5, e5, s5, f5⟩ : ∃ G, upd G4 t5 (.tup [.int 1, .int 6]) = G ∧ Same G4 G ∧ G t5 = some (.tup [.int 1, .int 6]) := ⟨_, rfl, Jv.same_new h5, upd_same⟩
    rw [e5]
    clear e5 h5
    walk_at "r"
    intro t6 h6
    obtain ⟨G6, e6, s6, f6⟩ : ∃ G, upd G5 t6 (.tup [.int 2, .int 3]) = G ∧ Same G5 G ∧ G t6 = some (.tup [.int 2, .int 3]) := ⟨_, rfl, Jv.same_new h6, upd_same⟩
    rw [e6]
    clear e6 h6
    walk_at "r"
    intro t7 h7
    obtain ⟨G7, e7, s7, f7⟩ : ∃ G, upd G6 t7 (.tup [.int 4, .int 3]) = G ∧ Same G6 G ∧ G t7 = some (.tup [.int 4, .int 3]) := ⟨_, rfl, Jv.same_new h7, upd_same⟩
    rw [e7]
    clear e7 h7
    walk_at "r"
    intro t8 h8
    obtain ⟨G8, e8, s8, f8⟩ : ∃ G, upd G7 t8 (.tup [.int 3, .int 1]) = G ∧ Same G7 G ∧ G t8 = some (.tup [.int 3, .int 1]) := ⟨_, rfl, Jv.same_new h8, upd_same⟩
    rw [e8]
    clear e8 h8
    walk_at "r"
    intro t9 h9
    obtain ⟨G9, e9, s9, f9⟩ : ∃ G, upd G8 t9 (.lst [.ref t1, .ref t2, .ref t3, .ref t4, .ref t5, .ref t6, .ref t7, .ref t8]) = G ∧ Same G8 G ∧ G t9 = some (.lst [.ref t1, .ref t2, .ref t3, .ref t4, .ref t5, .ref t6, .ref t7, .ref t8]) := ⟨_, rfl, Jv.same_new h9, upd_same⟩
    have s08 := s1.trans (s2.trans (s3.trans (s4.trans (s5.trans (s6.trans (s7.trans s8))))))
    have hh8 := hh.same s08
    obtain ⟨n9, _⟩ := hh8.ne2 h9
    have hh9 := hh8.same s9
    rw [e9]
    clear e9 h9 hh8
    walk_at "r"
    refine ⟨h, hl, 8, rfl, hh9, ⟨by decide, Jv.log_small (by decide) (by decide)⟩, fun z H1 z0 z1 kp1 hh1 => ?_⟩
    have f9' := kp1 _ _ n9 f9
    have kp01 : Jv.Kp h H H1 := (Jv.Kp.same (s08.trans s9)).trans kp1
    have g1 := kp1 _ _ (hh9.neT (s9 _ _ (s8 _ _ (s7 _ _ (s6 _ _ (s5 _ _ (s4 _ _ (s3 _ _ (s2 _ _ f1))))))))) (s9 _ _ (s8 _ _ (s7 _ _ (s6 _ _ (s5 _ _ (s4 _ _ (s3 _ _ (s2 _ _ f1))))))))
    have g2 := kp1 _ _ (hh9.neT (s9 _ _ (s8 _ _ (s7 _ _ (s6 _ _ (s5 _ _ (s4 _ _ (s3 _ _ f2)))))))) (s9 _ _ (s8 _ _ (s7 _ _ (s6 _ _ (s5 _ _ (s4 _ _ (s3 _ _ f2)))))))
    have g3 := kp1 _ _ (hh9.neT (s9 _ _ (s8 _ _ (s7 _ _ (s6 _ _ (s5 _ _ (s4 _ _ f3))))))) (s9 _ _ (s8 _ _ (s7 _ _ (s6 _ _ (s5 _ _ (s4 _ _ f3))))))
    have g4 := kp1 _ _ (hh9.neT (s9 _ _ (s8 _ _ (s7 _ _ (s6 _ _ (s5 _ _ f4)))))) (s9 _ _ (s8 _ _ (s7 _ _ (s6 _ _ (s5 _ _ f4)))))
    have g5 := kp1 _ _ (hh9.neT (s9 _ _ (s8 _ _ (s7 _ _ (s6 _ _ f5))))) (s9 _ _ (s8 _ _ (s7 _ _ (s6 _ _ f5))))
    have g6 := kp1 _ _ (hh9.neT (s9 _ _ (s8 _ _ (s7 _ _ f6)))) (s9 _ _ (s8 _ _ (s7 _ _ f6)))
    have g7 := kp1 _ _ (hh9.neT (s9 _ _ (s8 _ _ f7))) (s9 _ _ (s8 _ _ f7))
    have g8 := kp1 _ _ (hh9.neT (s9 _ _ f8)) (s9 _ _ f8)
    walk_at "r"
    obtain ⟨n, rfl⟩ : ∃ n : Nat, z = n := ⟨z.toNat, by omega⟩
    have hn : n < 8 := by omega
    show rIxL K (.ref t9) (.int n) H1 _
    match n, hn with
    | 0, _ =>
      refine Jv.r_ixL (Jv.sqL_at f9') (Jv.at_i (by decide) rfl) ?_
      walk_at "r"
      exact ⟨t1, 2, 2, by decide, by decide, by decide, rfl, g1, kp01, hh1⟩
    | 1, _ =>
      refine Jv.r_ixL (Jv.sqL_at f9') (Jv.at_i (by decide) rfl) ?_
      walk_at "r"
      exact ⟨t2, 1, 1, by decide, by decide, by decide, rfl, g2, kp01, hh1⟩
    | 2, _ =>
      refine Jv.r_ixL (Jv.sqL_at f9') (Jv.at_i (by decide) rfl) ?_
      walk_at "r"
      exact ⟨t3, 3, 4, by decide, by decide, by decide, rfl, g3, kp01, hh1⟩
    | 3, _ =>
      refine Jv.r_ixL (Jv.sqL_at f9') (Jv.at_i (by decide) rfl) ?_
      walk_at "r"
      exact ⟨t4, 6, 2, by decide, by decide, by decide, rfl, g4, kp01, hh1⟩
    | 4, _ =>
      refine Jv.r_ixL (Jv.sqL_at f9') (Jv.at_i (by decide) rfl) ?_
      walk_at "r"
      exact ⟨t5, 1, 6, by decide, by decide, by decide, rfl, g5, kp01, hh1⟩
    | 5, _ =>
      refine Jv.r_ixL (Jv.sqL_at f9') (Jv.at_i (by decide) rfl) ?_
      walk_at "r"
      exact ⟨t6, 2, 3, by decide, by decide, by decide, rfl, g6, kp01, hh1⟩
    | 6, _ =>
      refine Jv.r_ixL (Jv.sqL_at f9') (Jv.at_i (by decide) rfl) ?_
      walk_at "r"
      exact ⟨t7, 4, 3, by decide, by decide, by decide, rfl, g7, kp01, hh1⟩
    | 7, _ =>
      refine Jv.r_ixL (Jv.sqL_at f9') (Jv.at_i (by decide) rfl) ?_
      walk_at "r"
      exact ⟨t8, 3, 1, by decide, by decide, by decide, rfl, g8, kp01, hh1⟩
    | n + 8, hn => omega
  · rintro σ H1 ⟨s, p, q, hp, hq, hpq, rfl, es, kp1, hh1⟩
    walk_at "r"
    refine ⟨h, hl, 7, rfl, hh1, ⟨by decide, Jv.log_small (by decide) (by decide)⟩, fun l H2 l0 l1 kp2 hh2 => ?_⟩
    have es2 := kp2 _ _ (hh1.neT es) es
    walk_at "r"
    refine ⟨fun σ H' => ∃ mm : Int, 1 ≤ mm ∧ mm ≤ 1000000 ∧ σ = [some (.ref h), some (.ref s), some (.int l), some (.int mm), none, none, none, none, none, none] ∧ Jv.Kp h H2 H' ∧ Jv.Hand H' h hl, ?_, ?_⟩
    · walk_at "r"
      intro t ht
      obtain ⟨nt, _⟩ := hh2.ne2 ht
      have hh3 := hh2.same (Jv.same_new (u := .lst [.int 1, .int 9, .int (10 ^ Int.toNat 6), .int (10 ^ Int.toNat 6)]) ht)
      walk_at "r"
      refine ⟨h, hl, 4, rfl, hh3, ⟨by decide, Jv.log_small (by decide) (by decide)⟩, fun z H4 z0 z1 kp4 hh4 => ?_⟩
      have et := kp4 _ _ nt upd_same
      have kp24 : Jv.Kp h H2 H4 := (Jv.Kp.new ht).trans kp4
      walk_at "r"
      obtain ⟨n, rfl⟩ : ∃ n : Nat, z = n := ⟨z.toNat, by omega⟩
      have hn : n < 4 := by omega
      show rIxL K (.ref t) (.int n) H4 _
      match n, hn with
      | 0, _ =>
        refine Jv.r_ixL (Jv.sqL_at et) (Jv.at_i (by decide) rfl) ?_
        walk_at "r"
        exact ⟨1, by decide, by decide, rfl, kp24, hh4⟩
      | 1, _ =>
        refine Jv.r_ixL (Jv.sqL_at et) (Jv.at_i (by decide) rfl) ?_
        walk_at "r"
        exact ⟨9, by decide, by decide, rfl, kp24, hh4⟩
      | 2, _ =>
        refine Jv.r_ixL (Jv.sqL_at et) (Jv.at_i (by decide) rfl) ?_
        walk_at "r"
        exact ⟨10 ^ Int.toNat 6, by decide, by decide, rfl, kp24, hh4⟩
      | 3, _ =>
        refine Jv.r_ixL (Jv.sqL_at et) (Jv.at_i (by decide) rfl) ?_
        walk_at "r"
        exact ⟨10 ^ Int.toNat 6, by decide, by decide, rfl, kp24, hh4⟩
      | n + 4, hn => omega
    rintro σ H3 ⟨mm, m1, m2, rfl, kp3, hh3⟩
    have es3 := kp3 _ _ (hh2.neT es2) es2
    have nsh := hh3.neT es3
    walk_at "r"
    intro A hA
    obtain ⟨nAh, nAl⟩ := hh3.ne2 hA
    have sk : ∀ H', Jv.Kp h H3 H' → Jv.Sk K H' (.ref s) [.int p, .int q] := fun H' k' => ⟨s, rfl, .inr (Jv.sqT_at (k' _ _ nsh es3))⟩
    walk_at "r"
    refine (sk _ (Jv.Kp.new hA)).ix (Jv.at_i (k := 0) (by decide) rfl) ?_
    walk_at "r"
    refine ⟨(p : Int), rfl, by omega, by omega, ?_⟩
    refine for_range (lo := 0) (n := (p : Int).toNat) (fun i σ H1 => ∃ y5 y6 y7 y8 y9 xs L', σ = [some (.ref h), some (.ref s), some (.int l), some (.int mm), some (.ref A), y5, y6, y7, y8, y9] ∧ Jv.Kp h H3 H1 ∧ Jv.Hand H1 h hl ∧ H1 A = some (.lst xs) ∧
      Jv.DvAll K (Jv.hide [A, h] H1) xs (L'.map rowLL) ∧ L'.length = i ∧ ∀ line ∈ L', line.length = q ∧ ∀ ns ∈ line, EntOk l ns)
      ⟨_, _, _, _, _, [], [], rfl, Jv.Kp.new hA, hh3.same (Jv.same_new hA), upd_same, .nil, rfl, fun _ hm => (nomatch hm)⟩ ?_ ?_
    · rintro i σ H4 hi ⟨y5, y6, y7, y8, y9, xs, L', rfl, kp4, hh4, eA, al, ln, ok⟩
      walk_at "r"
      intro B hB
      obtain ⟨nBh, nBl⟩ := hh4.ne2 hB
      have nBA : B ≠ A := fun e => by rw [e, eA] at hB; cases hB
      walk_at "r"
      refine (sk _ (kp4.trans (Jv.Kp.new hB))).ix (Jv.at_i (k := 1) (by decide) rfl) ?_
      walk_at "r"
      refine ⟨(q : Int), rfl, by omega, by omega, ?_⟩
      refine for_range (lo := 0) (n := (q : Int).toNat) (fun j σ H5 => ∃ y7 y8 y9 us line, σ = [some (.ref h), some (.ref s), some (.int l), some (.int mm), some (.ref A), some (.int (0 + (i : Nat))), some (.ref B), y7, y8, y9] ∧ Jv.Kp h H4 H5 ∧ Jv.Hand H5 h hl ∧ H5 B = some (.lst us) ∧
        Jv.DvAll K (Jv.hide [B, A, h] H5) us (line.map entL) ∧ line.length = j ∧ ∀ ns ∈ line, EntOk l ns)
        ⟨_, _, _, [], [], rfl, Jv.Kp.new hB, hh4.same (Jv.same_new hB), upd_same, .nil, rfl, fun _ hm => (nomatch hm)⟩ ?_ ?_
      · rintro j σ H5 hj ⟨y7, y8, y9, us, line, rfl, kp5, hh5, eB, alU, lU, okU⟩
        have eA5 := kp5 _ _ nAh eA
        walk_at "r"
        intro C hC
        obtain ⟨nCh, nCl⟩ := hh5.ne2 hC
        have nCB : C ≠ B := fun e => by rw [e, eB] at hC; cases hC
        have nCA : C ≠ A := fun e => by rw [e, eA5] at hC; cases hC
        walk_at "r"
        refine ⟨l + 1, rfl, by omega, by omega, ?_⟩
        refine for_range (lo := 0) (n := (l + 1).toNat) (fun m σ H6 => ∃ (y9 : Option V) (ns : List Int), σ = [some (.ref h), some (.ref s), some (.int l), some (.int mm), some (.ref A), some (.int (0 + (i : Nat))), some (.ref B), some (.int (0 + (j : Nat))), some (.ref C), y9] ∧ Jv.Kp h H5 H6 ∧ Jv.Hand H6 h hl ∧ H6 C = some (.lst (ns.map V.int)) ∧ ns.length = m ∧ ∀ n ∈ ns, 0 ≤ n ∧ n ≤ 1000000)
          ⟨_, [], rfl, Jv.Kp.new hC, hh5.same (Jv.same_new hC), upd_same, rfl, fun _ hm => (nomatch hm)⟩ ?_ ?_
        · rintro m σ H6 hm ⟨y9', ns, rfl, kp6, hh6, eC, lC, okC⟩
          have app : ∀ (z : Int) (H7 : Hp), 0 ≤ z → z ≤ 1000000 → Jv.Kp h H6 H7 → Jv.Hand H7 h hl → ∃ (y9 : Option V) (ns' : List Int), [some (V.ref h), some (.ref s), some (.int l), some (.int mm), some (.ref A), some (.int (0 + (i : Nat))), some (.ref B), some (.int (0 + (j : Nat))), some (.ref C), some (.int (0 + (m : Nat)))] = [some (.ref h), some (.ref s), some (.int l), some (.int mm), some (.ref A), some (.int (0 + (i : Nat))), some (.ref B), some (.int (0 + (j : Nat))), some (.ref C), y9] ∧
              Jv.Kp h H5 (upd H7 C (.lst (ns.map V.int ++ [.int z]))) ∧ Jv.Hand (upd H7 C (.lst (ns.map V.int ++ [.int z]))) h hl ∧ upd H7 C (.lst (ns.map V.int ++ [.int z])) C = some (.lst (ns'.map V.int)) ∧ ns'.length = m + 1 ∧ ∀ n ∈ ns', 0 ≤ n ∧ n ≤ 1000000 := fun z H7 z0 z1 kp7 hh7 =>
            ⟨_, ns ++ [z], rfl, fun c o nc hc => by rw [upd_ne (ne_of_none hc hC)]; exact kp7 c o nc (kp6 c o nc hc), hh7.upd nCh nCl, by rw [upd_same, List.map_append]; rfl, by rw [List.length_append, lC]; rfl, fun n hn => by
              rcases List.mem_append.mp hn with hn | hn
              · exact okC n hn
              · rw [List.mem_singleton.mp hn]; exact ⟨z0, z1⟩⟩
          walk_at "r"
          have e6 : (10 : Int) ^ Int.toNat 6 = 1000000 := by decide
          have less : ∀ H7, Jv.Kp h H6 H7 → Jv.Hand H7 h hl → sp_Ldraw ([V.ref h, V.int (mm + 1)] ++ []) H7 (fun x H8 => tNil
              [some (.ref h), some (.ref s), some (.int l), some (.int mm), some (.ref A), some (.int (0 + (i : Nat))), some (.ref B), some (.int (0 + (j : Nat))), some (.ref C), some (.int (0 + (m : Nat)))] H8 fun xs H9 => rAppend (.ref C) (x :: xs) H9 fun _ H10 => ∃ (y9 : Option V) (ns' : List Int), [some (V.ref h), some (.ref s), some (.int l), some (.int mm), some (.ref A), some (.int (0 + (i : Nat))), some (.ref B), some (.int (0 + (j : Nat))), some (.ref C), some (.int (0 + (m : Nat)))] = [some (.ref h), some (.ref s), some (.int l), some (.int mm), some (.ref A), some (.int (0 + (i : Nat))), some (.ref B), some (.int (0 + (j : Nat))), some (.ref C), y9] ∧
              Jv.Kp h H5 H10 ∧ Jv.Hand H10 h hl ∧ H10 C = some (.lst (ns'.map V.int)) ∧ ns'.length = m + 1 ∧ ∀ n ∈ ns', 0 ≤ n ∧ n ≤ 1000000) (E0) := fun H7 kp7 hh7 => by
            refine ⟨h, hl, _, rfl, hh7, ⟨by omega, Jv.log_small (by omega) (by omega)⟩, fun z H8 z0 z1 kp8 hh8 => ?_⟩
            walk_at "r"
            refine Jv.r_app (kp8 C _ nCh (kp7 C _ nCh eC)) (by rw [List.length_map]; omega) ?_
            exact app z H8 z0 (by omega) (kp7.trans kp8) hh8
          refine Jv.r_decI (fun em => ?_) (fun em => ?_)
          · walk_at "r"
            refine ⟨h, hl, 4, rfl, hh6, ⟨by decide, Jv.log_small (by decide) (by decide)⟩, fun z H7 z0 z1 kp7 hh7 => ?_⟩
            walk_at "r"
            refine Jv.r_decI (fun ez => ?_) (fun ez => ?_)
            · walk_at "r"
              refine Jv.r_app (kp7 C _ nCh eC) (by rw [List.length_map]; omega) ?_
              exact app _ H7 (by rw [e6]; decide) (by rw [e6]; decide) kp7 hh7
            · walk_at "r"
              exact less _ kp7 hh7
          · walk_at "r"
            exact less _ Jv.Kp.refl hh6
        · rintro σ H6 ⟨y9', ns, rfl, kp6, hh6, eC, lC, okC⟩
          walk_at "r"
          have eB6 := kp6 _ _ nBh eB
          refine Jv.r_tyL eB6 ?_
          walk_at "r"
          have lUs := alU.len
          rw [List.length_map] at lUs
          refine Jv.r_app eB6 (by omega) ?_
          refine ⟨_, _, _, us ++ [.ref C], line ++ [ns], rfl, fun c o nc hc => by rw [upd_ne (ne_of_none hc hB)]; exact kp6 c o nc (kp5 c o nc hc), hh6.upd nBh nBl, upd_same, ?_, by rw [List.length_append, lU]; rfl, fun n hn => ?_⟩
          · rw [Jv.hide_upd, List.map_append]
            refine Jv.DvAll.snoc (.lst (Jv.hide_at ?_ eC) (Jv.dv_ints ns)) (alU.same (kp6.hideM (by simp)))
            intro m
            rcases List.mem_cons.mp m with e | m
            · exact nCB e
            · rcases List.mem_cons.mp m with e | m
              · exact nCA e
              · exact nCh (List.mem_singleton.mp m)
          · rcases List.mem_append.mp hn with hn | hn
            · exact okU n hn
            · rw [List.mem_singleton.mp hn]; exact ⟨by omega, okC⟩
      · rintro σ H5 ⟨y7, y8, y9, us, line, rfl, kp5, hh5, eB, alU, lU, okU⟩
        have eA5 := kp5 _ _ nAh eA
        walk_at "r"
        have lXs := al.len
        rw [List.length_map] at lXs
        have lUs := alU.len
        rw [List.length_map] at lUs
        refine Jv.r_app eA5 (by omega) ?_
        refine ⟨_, _, _, _, _, xs ++ [.ref B], L' ++ [line], rfl, fun c o nc hc => by rw [upd_ne (ne_of_none hc hA)]; exact kp5 c o nc (kp4 c o nc hc), hh5.upd nAh nAl, upd_same, ?_, by rw [List.length_append, ln]; rfl, fun r hr => ?_⟩
        · rw [Jv.hide_upd, List.map_append]
          refine Jv.DvAll.snoc (.lst (Jv.hide_at ?_ eB) ?_) (al.same (kp5.hideM (by simp)))
          · intro m
            rcases List.mem_cons.mp m with e | m
            · exact nBA e
            · exact nBh (List.mem_singleton.mp m)
          · exact alU.same Jv.hide_less
        · rcases List.mem_append.mp hr with hr | hr
          · exact ok r hr
          · rw [List.mem_singleton.mp hr]; exact ⟨by omega, okU⟩
    · rintro σ H4 ⟨y5, y6, y7, y8, y9, xs, L', rfl, kp4, hh4, eA, al, ln, ok⟩
      walk_at "r"
      intro r hr
      have kpr : Jv.Kp h H3 (upd H4 r (.tup [.ref s, .int l, .ref A])) := kp4.trans (Jv.Kp.new hr)
      refine k r s (.ref A) l L' _ p q ⟨l0, by omega, by omega, fun line hm => (ok line hm).1, hp.1, hp.2, hq.1, hq.2, hpq, fun line hm ns hn => ((ok line hm).2 ns hn).1, fun line hm ns hn => ((ok line hm).2 ns hn).2⟩ (((kp1.trans kp2).trans kp3).trans kpr) (hh4.same (Jv.same_new hr)) upd_same (kpr _ _ nsh es3) ?_
      have n4 := Jv.same_new (u := .tup [.ref s, .int l, .ref A]) hr
      exact .lst (Jv.hide_at (fun m => nAh (List.mem_singleton.mp m)) (n4 _ _ eA)) ((al.same Jv.hide_less).same (Jv.hide_same n4))
end
end K49

namespace Jv
open PySem PySem.Spec PyProof.Rows L2
/-! ### what is made later -/
/-- H' without the lists that H has -/
def newer (H H' : Hp) : Hp := fun b => match H b with
  | some (.lst _) => none
  | _ => H' b
theorem DvAll.app {K : PySem.W.Frag} {H : Hp} : ∀ {vs ws : List V} {ds es : List PyData}, DvAll K H vs ds → DvAll K H ws es → DvAll K H (vs ++ ws) (ds ++ es)
  | _, _, _, _, .nil, q => q
  | _, _, _, _, .cons a b, q => .cons a (DvAll.app b q)
section
variable {K : PySem.W.Frag} {H H' H1 : Hp} {b : Addr} {o : HO} {N : List Addr}
theorem newer_le : Same (newer H H') H' := fun b o e => by
  unfold newer at e
  split at e
  · cases e
  · exact e
theorem newer_at (n : ∀ ys, H b ≠ some (.lst ys)) (e : H' b = some o) : newer H H' b = some o := by
  unfold newer
  split
  · rename_i ys h; exact (n ys h).elim
  · exact e
theorem newer_new (n : H b = none) (e : H' b = some o) : newer H H' b = some o := newer_at (fun ys h => by rw [n] at h; cases h) e
theorem newer_not (e : newer H H' b = some o) : (∀ ys, H b ≠ some (.lst ys)) ∧ H' b = some o := by
  refine ⟨fun ys h => ?_, newer_le b o e⟩
  unfold newer at e
  rw [h] at e; cases e
theorem newer_hide (hN : ∀ b ∈ N, ∃ ys, H b = some (.lst ys)) : Same (newer H H') (hide N H') := fun b o e => by
  obtain ⟨h1, h2⟩ := newer_not e
  exact hide_at (fun m => by obtain ⟨ys, h⟩ := hN b m; exact h1 ys h) h2
theorem newer_same (s : Same H' H1) : Same (newer H H') (newer H H1) := fun b o e => by
  obtain ⟨h1, h2⟩ := newer_not e
  exact newer_at h1 (s _ _ h2)
theorem newer_sub (hs : ∀ b ys, H b = some (.lst ys) → ∃ zs, H1 b = some (.lst zs)) : Same (newer H1 H') (newer H H') := fun b o e => by
  obtain ⟨h1, h2⟩ := newer_not e
  exact newer_at (fun ys h => by obtain ⟨zs, hz⟩ := hs b ys h; exact h1 zs hz) h2
end
end Jv
namespace K49
open PySem PySem.Spec PyProof.Rows L2
/-! ### an entry spoilt -/
def sp_Lspoil_entry (K : PySem.W.Frag) : Sp := fun vs H Q _ => ∃ h hl U, ∃ ns : List Int, vs = [.ref h, .ref U] ∧ Jv.Hand H h hl ∧ U ≠ h ∧ H U = some (.lst (ns.map V.int)) ∧ (1 ≤ ns.length ∧ ns.length ≤ 40) ∧
  ∀ r d H', Jv.Dv K (Jv.newer H H') r d → Jv.few1 d → Jv.Kp h H H' → Jv.Hand H' h hl → Q r H'
theorem cut_ints (ns : List Int) (lo hi : Option Int) : ∃ ms : List Int, cutV (ns.map V.int) lo hi = ms.map V.int ∧ ms.length ≤ ns.length := by
  unfold cutV
  exact ⟨(ns.drop _).take _, by rw [List.map_take, List.map_drop], by rw [List.length_take, List.length_drop]; omega⟩
section
variable {P : Program} {w : World} {K : PySem.W.Frag} {mg : Str → Option Value} {base : Heap}
theorem ok_Lspoil_entry (T : Tx) (O : Ok K mg T) : FnOk P w K mg base CX0 3 T.f_Lspoil_entry T.d_Lspoil_entry ["_law_hand_here", "_law_entry"] (sp_Lspoil_entry K) := by
  refine O.F_Lspoil_entry.ok sc_Lspoil_entry (fun vs H Q E h => by obtain ⟨_, _, _, _, rfl, _⟩ := h; rfl) (fun cdv A outer s H vs Q E hr h => ?_)
  obtain ⟨h, hl, U, ns, rfl, hh, nU, eU, ⟨c1, c2⟩, k⟩ := h
  refine ⟨_, (pss_cons (ps_set (i := 2) sc_Lspoil_entry.nd rfl (Or.inl rfl) (pe_call (ok_Ldraw T O) (hr.mono (by decide)) (by rfl) O.m_Ldraw O.F_Ldraw.kp O.b_Ldraw .nil pass0 (pa_cons (pv 0) (pa_cons pe_int pa_nil))))
  (pss_cons (ps_if (pt_cmpR op_eq (pv 2) pe_int (nomark _)) (pss_one (ps_ret (pe_op op_cat (pv 1) (pe_lst (pa_cons pe_int pa_nil))))) pss_nil)
  (pss_cons (ps_if (pt_cmpR op_eq (pv 2) pe_int (nomark _)) (pss_one (ps_ret (pe_slice (r := rSlL K) sl_list (pv 1) (po_some pe_int) po_none))) pss_nil)
  (pss_cons (ps_if (pt_cmpR op_eq (pv 2) pe_int (nomark _)) (pss_one (ps_ret (pe_ix (r := rIxL K) ix_list (pe_lst (pa_cons pe_non (pa_cons pe_int (pa_cons pe_str (pa_cons pe_bl pa_nil))))) (pe_call (ok_Ldraw T O) (hr.mono (by decide)) (by rfl) O.m_Ldraw O.F_Ldraw.kp O.b_Ldraw .nil pass0 (pa_cons (pv 0) (pa_cons pe_int pa_nil))) (fun _ _ => rfl)))) pss_nil)
  (pss_cons (ps_set (i := 3) sc_Lspoil_entry.nd rfl (Or.inl rfl) (pe_call (ok_Ldraw T O) (hr.mono (by decide)) (by rfl) O.m_Ldraw O.F_Ldraw.kp O.b_Ldraw .nil pass0 (pa_cons (pv 0) (pa_cons (pe_callB (r := Jv.rLenK K) Jv.cr_len (by rfl) O.z_len (by decide +kernel) (pa_cons (pv 1) pa_nil)) pa_nil))))
  (C8.pss_cut (ps_set (i := 4) sc_Lspoil_entry.nd rfl (Or.inl rfl) (pe_ix (r := rIxL K) ix_list (pe_lst (pa_cons (pe_un un_neg pe_int) (pa_cons (pe_op op_add (pe_op op_pow pe_int pe_int) pe_int) (pa_cons pe_bl (pa_cons pe_non (pa_cons pe_str (pa_cons (pe_tup (pa_cons pe_int pa_nil)) (pa_cons (pe_un un_neg (pe_op op_pow pe_int pe_int)) (pa_cons pe_bl pa_nil))))))))) (pe_call (ok_Ldraw T O) (hr.mono (by decide)) (by rfl) O.m_Ldraw O.F_Ldraw.kp O.b_Ldraw .nil pass0 (pa_cons (pv 0) (pa_cons pe_int pa_nil))) (fun _ _ => rfl)))
  (pss_one (ps_ret (pe_op op_cat (pe_op op_cat (pe_slice (r := rSlL K) sl_list (pv 1) po_none (po_some (pv 3))) (pe_lst (pa_cons (pv 4) pa_nil))) (pe_slice (r := rSlL K) sl_list (pv 1) (po_some (pe_op op_add (pv 3) pe_int)) po_none)))))))))), ?_⟩
  have lst : ∀ (p : Addr) (vs : List V) (ds : List PyData) (H1 : Hp), Jv.Kp h H H1 → Jv.Hand H1 h hl → H1 p = none → Jv.DvAll K (Jv.newer H H1) vs ds → ds.length ≤ 100 → Q (.ref p) (upd H1 p (.lst vs)) := fun p vs ds H1 k1 h1 n al few => by
    refine k _ (.list ds) _ (.lst (Jv.newer_new (k1.free h1 n) upd_same) (al.same (Jv.newer_same (Jv.same_new n)))) (fun es e => by cases e; exact few) (k1.trans (Jv.Kp.new n)) (h1.same (Jv.same_new n))
  walk_at "r"
  refine ⟨h, hl, 8, rfl, hh, ⟨by decide, Jv.log_small (by decide) (by decide)⟩, fun way H1 w0 w1 kp1 hh1 => ?_⟩
  have eU1 := kp1 _ _ nU eU
  walk_at "r"
  refine Jv.r_decI (fun _ => ?_) (fun _ => ?_)
  · walk_at "r"
    intro t ht
    walk_at "r"
    have n1 := Jv.same_new (u := .lst [.int 0]) ht
    refine ⟨U, t, _, _, rfl, rfl, n1 _ _ eU1, upd_same, Jv.small_of (by rw [List.length_map]; show ns.length + 1 ≤ 1000; omega), fun p hp => ?_⟩
    exact lst p _ ((ns.map .int) ++ [.int 0]) _ (kp1.trans (Jv.Kp.same n1)) (hh1.same n1) hp (Jv.DvAll.snoc (.int 0) (Jv.dv_ints ns)) (by rw [List.length_append, List.length_map]; simp; omega)
  walk_at "r"
  refine Jv.r_decI (fun _ => ?_) (fun _ => ?_)
  · walk_at "r"
    unfold tSl
    walk_at "r"
    unfold tPart tNoPart
    walk_at "r"
    refine ⟨1, rfl, ?_⟩
    refine ⟨U, _, rfl, Jv.sqL_at eU1, fun p hp => ?_⟩
    obtain ⟨ms, e1, e2⟩ := cut_ints ns (some 1) none
    rw [e1]
    exact lst p _ (ms.map .int) _ kp1 hh1 hp (Jv.dv_ints ms) (by rw [List.length_map]; omega)
  walk_at "r"
  refine Jv.r_decI (fun _ => ?_) (fun _ => ?_)
  · walk_at "r"
    intro p hp
    obtain ⟨np, _⟩ := hh1.ne2 hp
    have n1 := Jv.same_new (u := .lst [.non, .int 5, .str "1", .bl true]) hp
    have hh2 := hh1.same n1
    walk_at "r"
    refine ⟨h, hl, 4, rfl, hh2, ⟨by decide, Jv.log_small (by decide) (by decide)⟩, fun z H3 z0 z1 kp3 hh3 => ?_⟩
    have ep := kp3 _ _ np upd_same
    have kp13 := kp1.trans ((Jv.Kp.same n1).trans kp3)
    walk_at "r"
    obtain ⟨n, rfl⟩ : ∃ n : Nat, z = n := ⟨z.toNat, by omega⟩
    have hn : n < 4 := by omega
    show rIxL K (.ref p) (.int n) H3 _
    match n, hn with
    | 0, _ => exact Jv.r_ixL (Jv.sqL_at ep) (Jv.at_i (by decide) rfl) (k _ _ _ .non (fun es e => nomatch e) kp13 hh3)
    | 1, _ => exact Jv.r_ixL (Jv.sqL_at ep) (Jv.at_i (by decide) rfl) (k _ _ _ (.int _) (fun es e => nomatch e) kp13 hh3)
    | 2, _ => exact Jv.r_ixL (Jv.sqL_at ep) (Jv.at_i (by decide) rfl) (k _ _ _ (.str _) (fun es e => nomatch e) kp13 hh3)
    | 3, _ => exact Jv.r_ixL (Jv.sqL_at ep) (Jv.at_i (by decide) rfl) (k _ _ _ (.bl _) (fun es e => nomatch e) kp13 hh3)
    | n + 4, hn => omega
  walk_at "r"
  refine ⟨h, hl, _, rfl, hh1, ⟨by rw [List.length_map]; omega, Jv.log_small (by rw [List.length_map]; omega) (by rw [List.length_map]; omega)⟩, fun at_ H2 a0 a1 kp2 hh2 => ?_⟩
  have eU2 := kp2 _ _ nU eU1
  have kp12 := kp1.trans kp2
  walk_at "r"
  refine ⟨fun σ H' => ∃ v dv, σ = [some (.ref h), some (.ref U), some (.int way), some (.int at_), some v] ∧ Jv.Dv K (Jv.newer H H') v dv ∧ Jv.Kp h H2 H' ∧ Jv.Hand H' h hl, ?_, ?_⟩
  · walk_at "r"
    intro t ht
    have n1 := Jv.same_new (u := .tup [.int 1]) ht
    have ft := kp12.free hh2 ht
    walk_at "r"
    intro p hp
    obtain ⟨np, _⟩ := (hh2.same n1).ne2 hp
    have n2 := Jv.same_new (u := .lst [.int (-1), .int (10 ^ Int.toNat 6 + 1), .bl true, .non, .str "0", .ref t, .int (-10 ^ Int.toNat 30), .bl false]) hp
    have hh3 := (hh2.same n1).same n2
    walk_at "r"
    refine ⟨h, hl, 8, rfl, hh3, ⟨by decide, Jv.log_small (by decide) (by decide)⟩, fun z H4 z0 z1 kp4 hh4 => ?_⟩
    have ep := kp4 _ _ np upd_same
    have e0t : upd H2 t (.tup [.int 1]) t = some (.tup [.int 1]) := upd_same
    have et := kp4 _ _ (hh3.neT (n2 _ _ e0t)) (n2 _ _ e0t)
    have kp24 := (Jv.Kp.same (p := h) (n1.trans n2)).trans kp4
    walk_at "r"
    obtain ⟨n, rfl⟩ : ∃ n : Nat, z = n := ⟨z.toNat, by omega⟩
    have hn : n < 8 := by omega
    show rIxL K (.ref p) (.int n) H4 _
    match n, hn with
    | 0, _ => exact Jv.r_ixL (Jv.sqL_at ep) (Jv.at_i (by decide) rfl) ⟨_, _, rfl, .int _, kp24, hh4⟩
    | 1, _ => exact Jv.r_ixL (Jv.sqL_at ep) (Jv.at_i (by decide) rfl) ⟨_, _, rfl, .int _, kp24, hh4⟩
    | 2, _ => exact Jv.r_ixL (Jv.sqL_at ep) (Jv.at_i (by decide) rfl) ⟨_, _, rfl, .bl _, kp24, hh4⟩
    | 3, _ => exact Jv.r_ixL (Jv.sqL_at ep) (Jv.at_i (by decide) rfl) ⟨_, _, rfl, .non, kp24, hh4⟩
    | 4, _ => exact Jv.r_ixL (Jv.sqL_at ep) (Jv.at_i (by decide) rfl) ⟨_, _, rfl, .str _, kp24, hh4⟩
    | 5, _ => exact Jv.r_ixL (Jv.sqL_at ep) (Jv.at_i (by decide) rfl) ⟨_, _, rfl, .tup (Jv.sqT_at (Jv.newer_new ft et)) (.cons (.int 1) .nil), kp24, hh4⟩
    | 6, _ => exact Jv.r_ixL (Jv.sqL_at ep) (Jv.at_i (by decide) rfl) ⟨_, _, rfl, .int _, kp24, hh4⟩
    | 7, _ => exact Jv.r_ixL (Jv.sqL_at ep) (Jv.at_i (by decide) rfl) ⟨_, _, rfl, .bl _, kp24, hh4⟩
    | n + 8, hn => omega
  · rintro σ H4 ⟨v, dv, rfl, dvv, kp4, hh4⟩
    have eU4 := kp4 _ _ nU eU2
    walk_at "r"
    unfold tSl tPart tNoPart
    walk_at "r"
    refine ⟨at_, rfl, ?_⟩
    obtain ⟨ms1, e1, l1⟩ := cut_ints ns none (some at_)
    refine ⟨U, _, rfl, Jv.sqL_at eU4, fun p1 h1 => ?_⟩
    rw [e1]
    have n1 := Jv.same_new (u := .lst (ms1.map V.int)) h1
    walk_at "r"
    intro p2 h2
    have n2 := Jv.same_new (u := .lst [v]) h2
    walk_at "r"
    refine ⟨p1, p2, _, _, rfl, rfl, n2 _ _ upd_same, upd_same, Jv.small_of (by rw [List.length_map]; show ms1.length + 1 ≤ 1000; omega), fun p3 h3 => ?_⟩
    have n3 := Jv.same_new (u := .lst (ms1.map V.int ++ [v])) h3
    walk_at "r"
    refine ⟨_, rfl, ?_⟩
    obtain ⟨ms2, e2, l2⟩ := cut_ints ns (some (at_ + 1)) none
    refine ⟨U, _, rfl, Jv.sqL_at (n3 _ _ (n2 _ _ (n1 _ _ eU4))), fun p4 h4 => ?_⟩
    rw [e2]
    have n4 := Jv.same_new (u := .lst (ms2.map V.int)) h4
    walk_at "r"
    refine ⟨p3, p4, _, _, rfl, rfl, n4 _ _ upd_same, upd_same, Jv.small_of (by rw [List.length_append, List.length_map, List.length_map]; show ms1.length + 1 + ms2.length ≤ 1000; omega), fun p5 h5 => ?_⟩
    have n14 := n1.trans (n2.trans (n3.trans n4))
    refine lst p5 _ ((ms1.map .int ++ [dv]) ++ ms2.map .int) _ ((kp12.trans kp4).trans (Jv.Kp.same n14)) (hh4.same n14) h5 ?_ (by rw [List.length_append, List.length_append, List.length_map, List.length_map]; show ms1.length + 1 + ms2.length ≤ 100; omega)
    exact Jv.DvAll.app (Jv.DvAll.snoc (dvv.same (Jv.newer_same n14)) (Jv.dv_ints ms1)) (Jv.dv_ints ms2)
end
end K49

namespace K49
open PySem PySem.Spec PyProof.Rows L2
/-! ### lines spoilt -/
def sp_Lspoil_lines (K : PySem.W.Frag) : Sp := fun vs H Q _ => ∃ h hl x l L, ∃ p q : Nat, vs = [.ref h, x] ∧ Jv.Hand H h hl ∧ Jv.Dv K (Jv.hide [h] H) x (linLL L) ∧ Gc l L p q ∧
  ∀ r d H', Jv.Dv K (Jv.hide [h] H') r d → Jv.few3 d → Jv.Kp h H H' → Jv.Hand H' h hl → Q r H'
theorem _root_.Jv.lcL2 {K : PySem.W.Frag} {σ : L2.St} {H : Hp} {te : TE} {Q : VK} {xs : List V} {a : Addr} {j i : Nat} {N : List Addr} (hv : σ[i]? = some (some (.ref a))) (hx : SqL K H a xs) (hN : Jv.Held N H) (es : List PyData) (hl : es.length = xs.length) (few : xs.length ≤ 1000)
    (hs : ∀ i v e D H1, i < xs.length → xs[i]? = some v → es[i]? = some e → Same H H1 → Jv.Held (D :: N) H1 → H D = none → ∀ P : VK, (∀ y H2, Same H1 H2 → Jv.Dv K (Jv.hide (D :: N) H2) y e → P y H2) → te ((σ.set j none).set j (some v)) H1 P)
    (hd : ∀ D ys H1, Same H H1 → H D = none → H1 D = some (.lst ys) → Jv.DvAll K (Jv.hide N H1) ys es → Jv.DvAll K (Jv.hide (D :: N) H1) ys es → Q (.ref D) H1) : tLc (iList K (tVar i)) (gName j) tYes te [j] σ H Q :=
  ⟨_, hv, a, rfl, ⟨xs, hx⟩, Jv.lcD walk_list (fun H' s => s.seq hx) Jv.yat hN es hl few hs hd⟩
theorem _root_.Jv.DvAll.set {K : PySem.W.Frag} {H : Hp} {v : V} {d : PyData} (h : Jv.Dv K H v d) : ∀ {vs : List V} {ds : List PyData} (j : Nat), Jv.DvAll K H vs ds → Jv.DvAll K H (vs.set j v) (ds.set j d)
  | _, _, _, .nil => .nil
  | _, _, 0, .cons _ b => .cons h b
  | _, _, j + 1, .cons a b => .cons a (Jv.DvAll.set h j b)
theorem mapAt {α β : Type} {f : α → β} {xs : List α} {i : Nat} {y : β} (h : (xs.map f)[i]? = some y) : ∃ x, xs[i]? = some x ∧ f x = y := by
  rw [List.getElem?_map] at h
  exact Option.map_eq_some_iff.mp h
theorem set_same {xs : List V} {j : Nat} {v : V} (h : xs[j]? = some v) : xs.set j v = xs := by
  obtain ⟨h1, h2⟩ := List.getElem?_eq_some_iff.mp h
  rw [← h2]; simp
theorem setD {K : PySem.W.Frag} {H : Hp} {D h : Addr} {vs : List V} {ds : List PyData} (n : D ≠ h) (al : Jv.DvAll K (Jv.hide [D, h] H) vs ds) : Jv.Dv K (Jv.hide [h] (upd H D (.lst vs))) (.ref D) (.list ds) := by
  rw [← Jv.hide_upd (o := .lst vs)] at al
  exact .lst (Jv.hide_at (fun m => n (List.mem_singleton.mp m)) upd_same) (al.same Jv.hide_less)
theorem few1_ent (ns : List Int) (h : ns.length ≤ 100) : Jv.few1 (entL ns) := fun ds e => by cases e; rw [List.length_map]; exact h
theorem few2_of {ds : List PyData} (h : ds.length ≤ 100) (h2 : ∀ e ∈ ds, Jv.few1 e) : Jv.few2 (.list ds) := fun es e => by cases e; exact ⟨h, h2⟩
theorem few3_of {ds : List PyData} (h : ds.length ≤ 100) (h2 : ∀ e ∈ ds, Jv.few2 e) : Jv.few3 (.list ds) := fun es e => by cases e; exact ⟨h, h2⟩
theorem few1_flat {d : PyData} (h : Jv.seqD d = none) : Jv.few1 d := fun ds e => by rw [h] at e; cases e
theorem few2_flat {d : PyData} (h : Jv.seqD d = none) : Jv.few2 d := fun ds e => by rw [h] at e; cases e
theorem few3_flat {d : PyData} (h : Jv.seqD d = none) : Jv.few3 d := fun ds e => by rw [h] at e; cases e
theorem mem_set {ds : List PyData} {j : Nat} {d e : PyData} (h : e ∈ ds.set j d) : e ∈ ds ∨ e = d := List.mem_or_eq_of_mem_set h
def seven {α : Type} (ds : List α) : List α := ds ++ ds ++ ds ++ ds ++ ds ++ ds ++ ds
section
variable {P : Program} {w : World} {K : PySem.W.Frag} {mg : Str → Option Value} {base : Heap}
theorem ok_Lspoil_lines (T : Tx) (O : Ok K mg T) : FnOk P w K mg base CX0 4 T.f_Lspoil_lines T.d_Lspoil_lines ["_law_hand_here", "_law_lines"] (sp_Lspoil_lines K) := by
  refine O.F_Lspoil_lines.ok sc_Lspoil_lines (fun vs H Q E h => by obtain ⟨_, _, _, _, _, _, _, rfl, _⟩ := h; rfl) (fun cdv A outer s H vs Q E hr h => ?_)
  obtain ⟨h, hl, x, l, L, p, q, rfl, hh, hx, hw, k⟩ := h
  refine ⟨_, (pss_cons (ps_set (i := 2) sc_Lspoil_lines.nd rfl (Or.inl rfl) (pe_call (ok_Llists T O) (hr.mono (by decide)) (by rfl) O.m_Llists O.F_Llists.kp O.b_Llists .nil pass0 (pa_cons (pv 1) pa_nil)))
  (pss_cons (ps_set (i := 3) sc_Lspoil_lines.nd rfl (Or.inl rfl) (pe_call (ok_Ldraw T O) (hr.mono (by decide)) (by rfl) O.m_Ldraw O.F_Ldraw.kp O.b_Ldraw .nil pass0 (pa_cons (pv 0) (pa_cons pe_int pa_nil))))
  (C8.pss_cut (ps_set (i := 4) sc_Lspoil_lines.nd rfl (Or.inl rfl) (pe_call (ok_Ldraw T O) (hr.mono (by decide)) (by rfl) O.m_Ldraw O.F_Ldraw.kp O.b_Ldraw .nil pass0 (pa_cons (pv 0) (pa_cons (pe_callB (r := Jv.rLenK K) Jv.cr_len (by rfl) O.z_len (by decide +kernel) (pa_cons (pv 2) pa_nil)) pa_nil))))
  (pss_cons (ps_if (pt_cmpR op_eq (pv 3) pe_int (nomark _)) (pss_one (ps_ret (pe_ix (r := rIxL K) ix_list (pe_lst (pa_cons pe_non (pa_cons pe_int (pa_cons pe_str (pa_cons (pe_lst pa_nil) (pa_cons (pe_tup pa_nil) (pa_cons (pe_lst (pa_cons (pe_lst pa_nil) pa_nil)) (pa_cons (pe_lst (pa_cons (pe_lst pa_nil) (pa_cons (pe_lst pa_nil) pa_nil))) pa_nil)))))))) (pe_call (ok_Ldraw T O) (hr.mono (by decide)) (by rfl) O.m_Ldraw O.F_Ldraw.kp O.b_Ldraw .nil pass0 (pa_cons (pv 0) (pa_cons pe_int pa_nil))) (fun _ _ => rfl)))) pss_nil)
  (C8.pss_cut (ps_if (pt_cmpR op_eq (pv 3) pe_int (nomark _)) (pss_one (ps_asg (pe_op op_cat (pe_ix (r := rIxL K) ix_list (pv 2) (pv 4) (fun _ _ => rfl)) (pe_lst (pa_cons (pe_ix (r := rIx K) ix_seq (pe_ix (r := rIxL K) ix_list (pv 2) pe_int (fun _ _ => rfl)) pe_int (fun _ _ => rfl)) pa_nil))) (pg_sub (pv 2) (pv 4) set_list))) (pss_one (ps_if (pt_cmpR op_eq (pv 3) pe_int (nomark _)) (pss_one (ps_asg (pe_ix (r := rIxL K) ix_list (pe_lst (pa_cons pe_non (pa_cons pe_int (pa_cons (pe_tup pa_nil) (pa_cons pe_str pa_nil))))) (pe_call (ok_Ldraw T O) (hr.mono (by decide)) (by rfl) O.m_Ldraw O.F_Ldraw.kp O.b_Ldraw .nil pass0 (pa_cons (pv 0) (pa_cons pe_int pa_nil))) (fun _ _ => rfl)) (pg_sub (pv 2) (pv 4) set_list))) (pss_one (ps_if (pt_cmpR op_eq (pv 3) pe_int (nomark _)) (pss_one (ps_set (i := 2) sc_Lspoil_lines.nd rfl (Or.inl rfl) (pe_op op_cat (pe_op op_cat (pe_op op_cat (pe_op op_cat (pe_op op_cat (pe_op op_cat (pv 2) (pv 2)) (pv 2)) (pv 2)) (pv 2)) (pv 2)) (pv 2)))) (pss_one (ps_if (pt_cmpR op_eq (pv 3) pe_int (nomark _)) (pss_one (ps_setLc (i := 2) (own := [("_law_line", 6)]) (by rfl) sc_Lspoil_lines.nd rfl rfl (sw_true rfl rfl rfl (by decide +kernel)) (show PI _ _ _ (iList K _) from pi_list (pv 2)) (blkOk_by (own := [("_law_line", 6)]) (N := ["_law_hand_here", "_law_lines", "_law_kept", "_law_way", "_law_east", "_law_west", "_law_line"]) (sc := defScope s_Lspoil_lines) (scope := ({ kind := .function, names := [(".0", .local), ("_law_line", .local)], isGenerator := false, isCoroutine := false } : Scope)) (by decide +kernel)) (fun _ _ _ _ _ => (pg_name (i := 6) sc_Lspoil_lines.nd rfl (Or.inl rfl))) (fun _ _ _ _ _ => pts_nil) (fun _ _ _ _ _ => (pe_op op_cat (pe_op op_cat (pe_op op_cat (pe_op op_cat (pe_op op_cat (pe_op op_cat (pv 6) (pv 6)) (pv 6)) (pv 6)) (pv 6)) (pv 6)) (pv 6))))) (pss_cons (ps_set (i := 5) sc_Lspoil_lines.nd rfl (Or.inl rfl) (pe_call (ok_Ldraw T O) (hr.mono (by decide)) (by rfl) O.m_Ldraw O.F_Ldraw.kp O.b_Ldraw .nil pass0 (pa_cons (pv 0) (pa_cons (pe_callB (r := Jv.rLenK K) Jv.cr_len (by rfl) O.z_len (by decide +kernel) (pa_cons (pe_ix (r := rIxL K) ix_list (pv 2) (pv 4) (fun _ _ => rfl)) pa_nil)) pa_nil))))
  (pss_one (ps_asg (pe_call (ok_Lspoil_entry T O) (hr.mono (by decide)) (by rfl) O.m_Lspoil_entry O.F_Lspoil_entry.kp O.b_Lspoil_entry .nil pass0 (pa_cons (pv 0) (pa_cons (pe_ix (r := rIx K) ix_seq (pe_ix (r := rIxL K) ix_list (pv 2) (pv 4) (fun _ _ => rfl)) (pv 5) (fun _ _ => rfl)) pa_nil))) (pg_sub (pe_ix (r := rIxL K) ix_list (pv 2) (pv 4) (fun _ _ => rfl)) (pv 5) set_list)))))))))))
  (pss_one (ps_ret (pv 2)))))))), ?_⟩
  walk_at "r"
  refine ⟨x, L, rfl, hx.same Jv.hide_le, hw.fl, fun D AA H1 s1 ft fr => ?_⟩
  have hh1 := hh.same s1
  walk_at "r"
  refine ⟨h, hl, 10, rfl, hh1, ⟨by decide, Jv.log_small (by decide) (by decide)⟩, fun way H2 w0 w1 kp2 hh2 => ?_⟩
  have nAA : ∀ a ∈ AA, a ≠ h := fun a m => (hh.ne2 (fr a m)).1
  have ft2 : Jv.Ft K H2 (.ref D) (linLL L) AA := ft.keep fun a m o e => kp2 a o (nAA a m) e
  walk_at "r"
  refine ⟨fun σ H' => ∃ e : Nat, e < p ∧ σ = [some (.ref h), some x, some (.ref D), some (.int way), some (.int e), none, none] ∧ Jv.Ft K H' (.ref D) (.list (L.map rowLL)) AA ∧ Jv.Kp h H2 H' ∧ Jv.Hand H' h hl, ?_, ?_⟩
  · have ft2' : Jv.Ft K H2 (.ref D) (.list (L.map rowLL)) AA := ft2
    cases ft2' with
    | lst eD fa nD =>
    have lx := fa.len
    rw [List.length_map, hw.hp] at lx
    have p0 := hw.p0
    have p6 := hw.p6
    walk_at "r"
    refine ⟨h, hl, _, rfl, hh2, ⟨by omega, Jv.log_small (by omega) (by omega)⟩, fun z H3 z0 z1 kp3 hh3 => ?_⟩
    obtain ⟨e, rfl⟩ : ∃ e : Nat, z = e := ⟨z.toNat, by omega⟩
    walk_at "r"
    exact ⟨e, by omega, rfl, ft2.keep fun a m o e => kp3 a o (nAA a m) e, kp3, hh3⟩
  rintro σ H4 ⟨e, he, rfl, ft4, kp4, hh4⟩
  have kp04 : Jv.Kp h H H4 := (Jv.Kp.same s1).trans (kp2.trans kp4)
  cases ft4 with
  | lst eD fa nD =>
  rename_i xs A'
  have lx := fa.len
  rw [List.length_map, hw.hp] at lx
  have p0 := hw.p0
  have p6 := hw.p6
  have q0 := hw.q0
  have q6 := hw.q6
  have nDh := nAA D List.mem_cons_self
  have nAl : ∀ a ∈ D :: A', a ≠ hl := fun a m => (hh.ne2 (fr a m)).2
  have kpA : ∀ (a : Addr) (H' : Hp) (o : HO), a ∈ D :: A' → Jv.Kp h H4 H' → Jv.Kp h H (upd H' a o) := fun a H' o m k' c u nc hc => by
    rw [upd_ne (ne_of_none hc (fr a m))]
    exact (kp04.trans k') c u nc hc
  have al4 : Jv.DvAll K (Jv.hide [D, h] H4) xs (L.map rowLL) := (fa.keep fun a m o e => Jv.hide_at (fun m2 => by
    rcases List.mem_cons.mp m2 with z | m2
    · exact nD (z ▸ m)
    · exact nAA a (List.mem_cons_of_mem _ m) (List.mem_singleton.mp m2)) e).dv
  have fR : ∀ r ∈ L.map rowLL, Jv.few2 r := fun r hr => by
    obtain ⟨line, hl, rfl⟩ := List.mem_map.mp hr
    refine few2_of (by rw [List.length_map, hw.hq line hl]; omega) fun e he => ?_
    obtain ⟨ns, hn, rfl⟩ := List.mem_map.mp he
    have := hw.len line hl ns hn
    have := hw.l6
    exact few1_ent ns (by omega)
  have rowAt : ∀ j : Nat, j < p → ∃ R us line, xs[j]? = some (.ref R) ∧ L[j]? = some line ∧ line.length = q ∧ H4 R = some (.lst us) ∧ Jv.DvAll K (Jv.hide [D, h] H4) us (line.map entL) ∧ R ≠ h ∧ R ≠ D := fun j hj => by
    have hx1 : xs[j]? = some xs[j] := List.getElem?_eq_getElem (by omega)
    obtain ⟨d, hd, dv⟩ := al4.at hx1
    obtain ⟨line, hl, rfl⟩ := mapAt hd
    cases dv' : xs[j] with
    | ref R =>
      rw [dv'] at dv hx1
      cases dv with
      | lst e1 q1 =>
        obtain ⟨n1, e2⟩ := Jv.hide_some e1
        exact ⟨R, _, line, hx1, hl, hw.hq line (List.mem_of_getElem? hl), e2, q1, fun z => n1 (by rw [z]; simp), fun z => n1 (by rw [z]; simp)⟩
    | _ => rw [dv'] at dv; cases dv
  have fin : ∀ r d H', Jv.Dv K (Jv.hide [h] H') r d → Jv.few3 d → Jv.Kp h H4 H' → Jv.Hand H' h hl → Q r H' := fun r d H' a b c e => k r d H' a b (kp04.trans c) e
  walk_at "r"
  refine Jv.r_decI (fun _ => ?_) (fun _ => ?_)
  · walk_at "r"
    intro t1 h1
    obtain ⟨nh1, _⟩ := hh4.ne2 h1
    obtain ⟨G1, e1, s1, f1⟩ : ∃ G, upd H4 t1 (.lst []) = G ∧ Same H4 G ∧ G t1 = some (.lst []) := ⟨_, rfl, Jv.same_new h1, upd_same⟩
    have hg1 := hh4.same s1
    rw [e1]
    clear e1 h1
    walk_at "r"
    intro t2 h2
    obtain ⟨nh2, _⟩ := hg1.ne2 h2
    obtain ⟨G2, e2, s2, f2⟩ : ∃ G, upd G1 t2 (.tup []) = G ∧ Same G1 G ∧ G t2 = some (.tup []) := ⟨_, rfl, Jv.same_new h2, upd_same⟩
    have hg2 := hg1.same s2
    rw [e2]
    clear e2 h2
    walk_at "r"
    intro t3 h3
    obtain ⟨nh3, _⟩ := hg2.ne2 h3
    obtain ⟨G3, e3, s3, f3⟩ : ∃ G, upd G2 t3 (.lst []) = G ∧ Same G2 G ∧ G t3 = some (.lst []) := ⟨_, rfl, Jv.same_new h3, upd_same⟩
    have hg3 := hg2.same s3
    rw [e3]
    clear e3 h3
    walk_at "r"
    intro t4 h4
    obtain ⟨nh4, _⟩ := hg3.ne2 h4
    obtain ⟨G4, e4, s4, f4⟩ : ∃ G, upd G3 t4 (.lst [.ref t3]) = G ∧ Same G3 G ∧ G t4 = some (.lst [.ref t3]) := ⟨_, rfl, Jv.same_new h4, upd_same⟩
    have hg4 := hg3.same s4
    rw [e4]
    clear e4 h4
    walk_at "r"
    intro t5 h5
    obtain ⟨nh5, _⟩ := hg4.ne2 h5
    obtain ⟨G5, e5, s5, f5⟩ : ∃ G, upd G4 t5 (.lst []) = G ∧ Same G4 G ∧ G t5 = some (.lst []) := ⟨_, rfl, Jv.same_new h5, upd_same⟩
    have hg5 := hg4.same s5
    rw [e5]
    clear e5 h5
    walk_at "r"
    intro t6 h6
    obtain ⟨nh6, _⟩ := hg5.ne2 h6
    obtain ⟨G6, e6, s6, f6⟩ : ∃ G, upd G5 t6 (.lst []) = G ∧ Same G5 G ∧ G t6 = some (.lst []) := ⟨_, rfl, Jv.same_new h6, upd_same⟩
    have hg6 := hg5.same s6
    rw [e6]
    clear e6 h6
    walk_at "r"
    intro t7 h7
    obtain ⟨nh7, _⟩ := hg6.ne2 h7
    obtain ⟨G7, e7, s7, f7⟩ : ∃ G, upd G6 t7 (.lst [.ref t5, .ref t6]) = G ∧ Same G6 G ∧ G t7 = some (.lst [.ref t5, .ref t6]) := ⟨_, rfl, Jv.same_new h7, upd_same⟩
    have hg7 := hg6.same s7
    rw [e7]
    clear e7 h7
    walk_at "r"
    intro t8 h8
    obtain ⟨nh8, _⟩ := hg7.ne2 h8
    obtain ⟨G8, e8, s8, f8⟩ : ∃ G, upd G7 t8 (.lst [.non, .int 7, .str "ab", .ref t1, .ref t2, .ref t4, .ref t7]) = G ∧ Same G7 G ∧ G t8 = some (.lst [.non, .int 7, .str "ab", .ref t1, .ref t2, .ref t4, .ref t7]) := ⟨_, rfl, Jv.same_new h8, upd_same⟩
    have hg8 := hg7.same s8
    rw [e8]
    clear e8 h8
    walk_at "r"
    refine ⟨h, hl, 7, rfl, hg8, ⟨by decide, Jv.log_small (by decide) (by decide)⟩, fun z H5 z0 z1 kp5 hh5 => ?_⟩
    have k45 : Jv.Kp h H4 H5 := (Jv.Kp.same (s1.trans (s2.trans (s3.trans (s4.trans (s5.trans (s6.trans (s7.trans s8)))))))).trans kp5
    have ep := kp5 _ _ nh8 f8
    have g1 := Jv.hide_at (N := [h]) (fun m => nh1 (List.mem_singleton.mp m)) (kp5 _ _ nh1 (s8 _ _ (s7 _ _ (s6 _ _ (s5 _ _ (s4 _ _ (s3 _ _ (s2 _ _ f1))))))))
    have g2 := Jv.hide_at (N := [h]) (fun m => nh2 (List.mem_singleton.mp m)) (kp5 _ _ nh2 (s8 _ _ (s7 _ _ (s6 _ _ (s5 _ _ (s4 _ _ (s3 _ _ f2)))))))
    have g3 := Jv.hide_at (N := [h]) (fun m => nh3 (List.mem_singleton.mp m)) (kp5 _ _ nh3 (s8 _ _ (s7 _ _ (s6 _ _ (s5 _ _ (s4 _ _ f3))))))
    have g4 := Jv.hide_at (N := [h]) (fun m => nh4 (List.mem_singleton.mp m)) (kp5 _ _ nh4 (s8 _ _ (s7 _ _ (s6 _ _ (s5 _ _ f4)))))
    have g5 := Jv.hide_at (N := [h]) (fun m => nh5 (List.mem_singleton.mp m)) (kp5 _ _ nh5 (s8 _ _ (s7 _ _ (s6 _ _ f5))))
    have g6 := Jv.hide_at (N := [h]) (fun m => nh6 (List.mem_singleton.mp m)) (kp5 _ _ nh6 (s8 _ _ (s7 _ _ f6)))
    have g7 := Jv.hide_at (N := [h]) (fun m => nh7 (List.mem_singleton.mp m)) (kp5 _ _ nh7 (s8 _ _ f7))
    walk_at "r"
    obtain ⟨n, rfl⟩ : ∃ n : Nat, z = n := ⟨z.toNat, by omega⟩
    have hn : n < 7 := by omega
    show rIxL K (.ref t8) (.int n) H5 _
    match n, hn with
    | 0, _ => exact Jv.r_ixL (Jv.sqL_at ep) (Jv.at_i (by decide) rfl) (fin _ _ _ .non (few3_flat rfl) k45 hh5)
    | 1, _ => exact Jv.r_ixL (Jv.sqL_at ep) (Jv.at_i (by decide) rfl) (fin _ _ _ (.int 7) (few3_flat rfl) k45 hh5)
    | 2, _ => exact Jv.r_ixL (Jv.sqL_at ep) (Jv.at_i (by decide) rfl) (fin _ _ _ (.str _) (few3_flat rfl) k45 hh5)
    | 3, _ => exact Jv.r_ixL (Jv.sqL_at ep) (Jv.at_i (by decide) rfl) (fin _ _ _ (.lst g1 .nil) (few3_of (by decide) fun _ m => nomatch m) k45 hh5)
    | 4, _ => exact Jv.r_ixL (Jv.sqL_at ep) (Jv.at_i (by decide) rfl) (fin _ (.tuple []) _ (.tup (Jv.sqT_at g2) .nil) (fun es e => by cases e; exact ⟨by decide, fun _ m => nomatch m⟩) k45 hh5)
    | 5, _ => exact Jv.r_ixL (Jv.sqL_at ep) (Jv.at_i (by decide) rfl) (fin _ _ _ (.lst g4 (.cons (.lst g3 .nil) .nil)) (few3_of (by decide) fun e m => by rw [List.mem_singleton.mp m]; exact few2_of (by decide) fun _ m => nomatch m) k45 hh5)
    | 6, _ => exact Jv.r_ixL (Jv.sqL_at ep) (Jv.at_i (by decide) rfl) (fin _ _ _ (.lst g7 (.cons (.lst g5 .nil) (.cons (.lst g6 .nil) .nil))) (few3_of (by decide) fun e m => by
        rcases List.mem_cons.mp m with z | m
        · rw [z]; exact few2_of (by decide) fun _ m => nomatch m
        · rw [List.mem_singleton.mp m]; exact few2_of (by decide) fun _ m => nomatch m) k45 hh5)
    | n + 7, hn => omega
  walk_at "r"
  refine ⟨fun σ H' => ∃ r d y5 y6, σ = [some (.ref h), some x, some r, some (.int way), some (.int e), y5, y6] ∧ Jv.Dv K (Jv.hide [h] H') r d ∧ Jv.few3 d ∧ Jv.Kp h H H' ∧ Jv.Hand H' h hl, ?_, ?_⟩
  case refine_2 =>
    rintro σ H5 ⟨r, d, y5, y6, rfl, dv, f3, kp5, hh5⟩
    walk_at "r"
    exact k r d H5 dv f3 kp5 hh5
  walk_at "r"
  refine Jv.r_decI (fun _ => ?_) (fun _ => ?_)
  · walk_at "r"
    obtain ⟨R, us, line, r1, r2, r3, r4, r5, r6, r7⟩ := rowAt e he
    obtain ⟨R0, us0, line0, o1, o2, o3, o4, o5, o6, o7⟩ := rowAt 0 (by omega)
    refine Jv.r_ixL (Jv.sqL_at eD) (Jv.at_i (by omega) (by rw [Int.toNat_natCast]; exact r1)) ?_
    walk_at "r"
    refine Jv.r_ixL (Jv.sqL_at eD) (Jv.at_i (k := 0) (by decide) o1) ?_
    walk_at "r"
    have lu0 := o5.len
    rw [List.length_map, o3] at lu0
    have o8 : us0[0]? = some us0[0] := List.getElem?_eq_getElem (by omega)
    obtain ⟨d00, o9, o10⟩ := o5.at o8
    obtain ⟨ns0, o11, rfl⟩ := mapAt o9
    have fns0 := few1_ent ns0 (by have := hw.len line0 (List.mem_of_getElem? o2) ns0 (List.mem_of_getElem? o11); have := hw.l6; omega)
    refine Jv.Sk.ix (xs := us0) ⟨R0, rfl, .inl (Jv.sqL_at o4)⟩ (Jv.at_i (k := 0) (by decide) o8) ?_
    walk_at "r"
    intro t1 h1
    have n1 := Jv.same_new (u := .lst [us0[0]]) h1
    walk_at "r"
    have lus := r5.len
    rw [List.length_map, r3] at lus
    refine ⟨R, t1, us, _, rfl, rfl, n1 _ _ r4, upd_same, Jv.small_of (by show us.length + 1 ≤ 1000; omega), fun p1 h2 => ?_⟩
    have n2 := Jv.same_new (u := .lst (us ++ [us0[0]])) h2
    have n12 := n1.trans n2
    have hh5 := (hh4.same n1).same n2
    obtain ⟨np, _⟩ := (hh4.same n1).ne2 h2
    have npD : p1 ≠ D := fun z => by rw [z, n1 _ _ eD] at h2; cases h2
    walk_at "r"
    refine ⟨D, xs, e, e, rfl, rfl, n12 _ _ eD, Jv.ixN_of (by omega), ?_⟩
    have hid := Jv.hide_same (N := [D, h]) n12
    refine ⟨.ref D, _, none, none, rfl, setD nDh (Jv.DvAll.set (.lst (Jv.hide_at (fun m => by
      rcases List.mem_cons.mp m with z | m
      · exact npD z
      · exact np (List.mem_singleton.mp m)) upd_same) (Jv.DvAll.snoc (o10.same hid) (r5.same hid))) e (al4.same hid)), ?_, ?_, hh5.upd nDh (fun z => ?_)⟩
    · refine few3_of (by rw [List.length_set, List.length_map, hw.hp]; omega) fun r hr => ?_
      rcases mem_set hr with hr | rfl
      · exact fR r hr
      · refine few2_of (by rw [List.length_append, List.length_map, r3]; simp; omega) fun x hx => ?_
        rcases List.mem_append.mp hx with hx | hx
        · exact (fR _ (List.mem_of_getElem? (i := e) (by rw [List.getElem?_map, r2]; rfl)) _ rfl).2 x hx
        · rw [List.mem_singleton.mp hx]; exact fns0
    · exact kpA D _ _ List.mem_cons_self (Jv.Kp.same n12)
    · exact nAl D List.mem_cons_self z
  walk_at "r"
  refine Jv.r_decI (fun _ => ?_) (fun _ => ?_)
  · walk_at "r"
    intro t1 h1
    obtain ⟨m1, _⟩ := hh4.ne2 h1
    have n1 := Jv.same_new (u := .tup []) h1
    have hg1 := hh4.same n1
    walk_at "r"
    intro t2 h2
    obtain ⟨m2, _⟩ := hg1.ne2 h2
    have n2 := Jv.same_new (u := .lst [.non, .int 3, .ref t1, .str "x"]) h2
    have hg2 := hg1.same n2
    have e1 : upd (upd H4 t1 (.tup [])) t2 (.lst [.non, .int 3, .ref t1, .str "x"]) t1 = some (.tup []) := n2 _ _ upd_same
    walk_at "r"
    refine ⟨h, hl, 4, rfl, hg2, ⟨by decide, Jv.log_small (by decide) (by decide)⟩, fun z H5 z0 z1 kp5 hh5 => ?_⟩
    have k45 : Jv.Kp h H4 H5 := (Jv.Kp.same (n1.trans n2)).trans kp5
    have ep := kp5 _ _ m2 upd_same
    have et := kp5 _ _ m1 e1
    have tD : t1 ≠ D := fun z => by rw [z, eD] at h1; cases h1
    walk_at "r"
    have hid : Same (Jv.hide [D, h] H4) (Jv.hide [D, h] H5) := k45.hideM (by simp)
    have put : ∀ v d, Jv.Dv K (Jv.hide [D, h] H5) v d → Jv.few2 d → ∃ r d' y5 y6, [some (V.ref h), some x, some (.ref D), some (.int way), some (.int e), none, none] = [some (.ref h), some x, some r, some (.int way), some (.int e), y5, y6] ∧ Jv.Dv K (Jv.hide [h] (upd H5 D (.lst (xs.set e v)))) r d' ∧ Jv.few3 d' ∧
        Jv.Kp h H (upd H5 D (.lst (xs.set e v))) ∧ Jv.Hand (upd H5 D (.lst (xs.set e v))) h hl := fun v d dv f2 =>
      ⟨.ref D, _, none, none, rfl, setD nDh (Jv.DvAll.set dv e (al4.same hid)), few3_of (by rw [List.length_set, List.length_map, hw.hp]; omega) fun r hr => by
        rcases mem_set hr with hr | rfl
        · exact fR r hr
        · exact f2, kpA D _ _ List.mem_cons_self k45, hh5.upd nDh (nAl D List.mem_cons_self)⟩
    have asg : ∀ v d, Jv.Dv K (Jv.hide [D, h] H5) v d → Jv.few2 d → rSetL (.ref D) (.int e) v H5 fun H' => ∃ r d' y5 y6, [some (V.ref h), some x, some (.ref D), some (.int way), some (.int e), none, none] = [some (.ref h), some x, some r, some (.int way), some (.int e), y5, y6] ∧ Jv.Dv K (Jv.hide [h] H') r d' ∧ Jv.few3 d' ∧
        Jv.Kp h H H' ∧ Jv.Hand H' h hl := fun v d dv f2 => ⟨D, xs, e, e, rfl, rfl, k45 _ _ nDh eD, Jv.ixN_of (by omega), put v d dv f2⟩
    obtain ⟨n, rfl⟩ : ∃ n : Nat, z = n := ⟨z.toNat, by omega⟩
    have hn : n < 4 := by omega
    show rIxL K (.ref t2) (.int n) H5 _
    match n, hn with
    | 0, _ =>
      refine Jv.r_ixL (Jv.sqL_at ep) (Jv.at_i (by decide) rfl) ?_
      walk_at "r"
      exact asg _ _ .non (few2_flat rfl)
    | 1, _ =>
      refine Jv.r_ixL (Jv.sqL_at ep) (Jv.at_i (by decide) rfl) ?_
      walk_at "r"
      exact asg _ _ (.int 3) (few2_flat rfl)
    | 2, _ =>
      refine Jv.r_ixL (Jv.sqL_at ep) (Jv.at_i (by decide) rfl) ?_
      walk_at "r"
      exact asg _ (.tuple []) (.tup (Jv.sqT_at (Jv.hide_at (fun m => by
        rcases List.mem_cons.mp m with z | m
        · exact tD z
        · exact m1 (List.mem_singleton.mp m)) et)) .nil) (fun es e => by cases e; exact ⟨by decide, fun _ m => nomatch m⟩)
    | 3, _ =>
      refine Jv.r_ixL (Jv.sqL_at ep) (Jv.at_i (by decide) rfl) ?_
      walk_at "r"
      exact asg _ _ (.str _) (few2_flat rfl)
    | n + 4, hn => omega
  walk_at "r"
  refine Jv.r_decI (fun _ => ?_) (fun _ => ?_)
  · walk_at "r"
    have alh : Jv.DvAll K (Jv.hide [h] H4) xs (L.map rowLL) := al4.same Jv.hide_less
    refine ⟨D, D, xs, xs, rfl, rfl, eD, eD, Jv.small_of (by first | omega | (simp only [List.length_append]; omega)), fun p1 h1 => ?_⟩
    have n1 := Jv.same_new (u := .lst (xs ++ xs)) h1
    walk_at "r"
    refine ⟨p1, D, (xs ++ xs), xs, rfl, rfl, upd_same, (n1 _ _ eD), Jv.small_of (by first | omega | (simp only [List.length_append]; omega)), fun p2 h2 => ?_⟩
    have n2 := Jv.same_new (u := .lst ((xs ++ xs) ++ xs)) h2
    walk_at "r"
    refine ⟨p2, D, ((xs ++ xs) ++ xs), xs, rfl, rfl, upd_same, n2 _ _ (n1 _ _ (eD)), Jv.small_of (by first | omega | (simp only [List.length_append]; omega)), fun p3 h3 => ?_⟩
    have n3 := Jv.same_new (u := .lst (((xs ++ xs) ++ xs) ++ xs)) h3
    walk_at "r"
    refine ⟨p3, D, (((xs ++ xs) ++ xs) ++ xs), xs, rfl, rfl, upd_same, n3 _ _ (n2 _ _ (n1 _ _ (eD))), Jv.small_of (by first | omega | (simp only [List.length_append]; omega)), fun p4 h4 => ?_⟩
    have n4 := Jv.same_new (u := .lst ((((xs ++ xs) ++ xs) ++ xs) ++ xs)) h4
    walk_at "r"
    refine ⟨p4, D, ((((xs ++ xs) ++ xs) ++ xs) ++ xs), xs, rfl, rfl, upd_same, n4 _ _ (n3 _ _ (n2 _ _ (n1 _ _ (eD)))), Jv.small_of (by first | omega | (simp only [List.length_append]; omega)), fun p5 h5 => ?_⟩
    have n5 := Jv.same_new (u := .lst (((((xs ++ xs) ++ xs) ++ xs) ++ xs) ++ xs)) h5
    walk_at "r"
    refine ⟨p5, D, (((((xs ++ xs) ++ xs) ++ xs) ++ xs) ++ xs), xs, rfl, rfl, upd_same, n5 _ _ (n4 _ _ (n3 _ _ (n2 _ _ (n1 _ _ (eD))))), Jv.small_of (by first | omega | (simp only [List.length_append]; omega)), fun p6 h6 => ?_⟩
    have n6 := Jv.same_new (u := .lst ((((((xs ++ xs) ++ xs) ++ xs) ++ xs) ++ xs) ++ xs)) h6
    have n16 := n1.trans (n2.trans (n3.trans (n4.trans (n5.trans n6))))
    have n15 := n1.trans (n2.trans (n3.trans (n4.trans n5)))
    obtain ⟨np, _⟩ := (hh4.same n15).ne2 h6
    walk_at "r"
    have al7 := (((((alh.app alh).app alh).app alh).app alh).app alh).app alh
    refine ⟨.ref p6, .list _, none, none, rfl, .lst (Jv.hide_at (fun m => np (List.mem_singleton.mp m)) upd_same) (al7.same (Jv.hide_same n16)), ?_, kp04.trans (Jv.Kp.same n16), hh4.same n16⟩
    refine few3_of (by simp only [List.length_append, List.length_map, hw.hp]; omega) fun r hr => ?_
    simp only [List.mem_append] at hr
    rcases hr with (((((hr | hr) | hr) | hr) | hr) | hr) | hr <;> exact fR r hr
  walk_at "r"
  refine Jv.r_decI (fun _ => ?_) (fun _ => ?_)
  · walk_at "r"
    refine Jv.lcL2 (K := K) (N := [h]) (j := 6) (i := 2) rfl (Jv.sqL_at eD) (fun b m => by rw [List.mem_singleton.mp m]; exact hh4.at) (L.map fun line => .list (seven (line.map entL))) (by rw [List.length_map, hw.hp]; omega) (by omega)
      (fun i v e' D1 H5 hi hv he s5 hN1 hD1 PP hP => ?_) (fun D1 ys H6 s6 hD1 eD1 dv1 _ => ?_)
    · obtain ⟨R, us, line, r1, r2, r3, r4, r5, r6, r7⟩ := rowAt i (by omega)
      rw [hv] at r1
      cases r1
      rw [List.getElem?_map, r2] at he
      obtain rfl := Option.some.inj he
      have lus := r5.len
      rw [List.length_map, r3] at lus
      have r8 := (r5.same Jv.hide_less).same (Jv.hide_more s5 hD1)
      have eR := s5 _ _ r4
      walk_at "r"
      refine ⟨R, R, us, us, rfl, rfl, eR, eR, Jv.small_of (by first | omega | (simp only [List.length_append]; omega)), fun p1 h1 => ?_⟩
      have n1 := Jv.same_new (u := .lst (us ++ us)) h1
      walk_at "r"
      refine ⟨p1, R, (us ++ us), us, rfl, rfl, upd_same, n1 _ _ (eR), Jv.small_of (by first | omega | (simp only [List.length_append]; omega)), fun p2 h2 => ?_⟩
      have n2 := Jv.same_new (u := .lst ((us ++ us) ++ us)) h2
      walk_at "r"
      refine ⟨p2, R, ((us ++ us) ++ us), us, rfl, rfl, upd_same, n2 _ _ (n1 _ _ (eR)), Jv.small_of (by first | omega | (simp only [List.length_append]; omega)), fun p3 h3 => ?_⟩
      have n3 := Jv.same_new (u := .lst (((us ++ us) ++ us) ++ us)) h3
      walk_at "r"
      refine ⟨p3, R, (((us ++ us) ++ us) ++ us), us, rfl, rfl, upd_same, n3 _ _ (n2 _ _ (n1 _ _ (eR))), Jv.small_of (by first | omega | (simp only [List.length_append]; omega)), fun p4 h4 => ?_⟩
      have n4 := Jv.same_new (u := .lst ((((us ++ us) ++ us) ++ us) ++ us)) h4
      walk_at "r"
      refine ⟨p4, R, ((((us ++ us) ++ us) ++ us) ++ us), us, rfl, rfl, upd_same, n4 _ _ (n3 _ _ (n2 _ _ (n1 _ _ (eR)))), Jv.small_of (by first | omega | (simp only [List.length_append]; omega)), fun p5 h5 => ?_⟩
      have n5 := Jv.same_new (u := .lst (((((us ++ us) ++ us) ++ us) ++ us) ++ us)) h5
      walk_at "r"
      refine ⟨p5, R, (((((us ++ us) ++ us) ++ us) ++ us) ++ us), us, rfl, rfl, upd_same, n5 _ _ (n4 _ _ (n3 _ _ (n2 _ _ (n1 _ _ (eR))))), Jv.small_of (by first | omega | (simp only [List.length_append]; omega)), fun p6 h6 => ?_⟩
      have n6 := Jv.same_new (u := .lst ((((((us ++ us) ++ us) ++ us) ++ us) ++ us) ++ us)) h6
      have n15 := n1.trans (n2.trans (n3.trans (n4.trans n5)))
      have n16 := n15.trans n6
      have r9 := (((((r8.app r8).app r8).app r8).app r8).app r8).app r8
      exact hP _ _ n16 (.lst (Jv.hide_at ((hN1.same n15).new h6) upd_same) (r9.same (Jv.hide_same n16)))
    · walk_at "r"
      obtain ⟨nD1, _⟩ := hh4.ne2 hD1
      refine ⟨.ref D1, .list _, none, none, rfl, .lst (Jv.hide_at (fun m => nD1 (List.mem_singleton.mp m)) eD1) dv1, ?_, kp04.trans (Jv.Kp.same s6), hh4.same s6⟩
      refine few3_of (by rw [List.length_map, hw.hp]; omega) fun r hr => ?_
      obtain ⟨line, hl, rfl⟩ := List.mem_map.mp hr
      have lq := hw.hq line hl
      refine few2_of (by unfold seven; simp only [List.length_append, List.length_map]; omega) fun x hx => ?_
      have hx2 : x ∈ line.map entL := by
        unfold seven at hx
        simp only [List.mem_append] at hx
        rcases hx with (((((hr | hr) | hr) | hr) | hr) | hr) | hr <;> exact hr
      exact (fR _ (List.mem_map.mpr ⟨line, hl, rfl⟩) _ rfl).2 x hx2
  walk_at "r"
  have xe : xs[e]? = some xs[e] := List.getElem?_eq_getElem (by omega)
  obtain ⟨dR, B, hdR, ftR, subB, chgD⟩ := fa.chg xe
  obtain ⟨line, hline, rfl⟩ := mapAt hdR
  have hlm := List.mem_of_getElem? hline
  have lq := hw.hq line hlm
  obtain ⟨R, us, B', eRx, eR, fb, nR, rfl⟩ : ∃ R us B', xs[e] = .ref R ∧ H4 R = some (.lst us) ∧ Jv.FtAll K H4 us (line.map entL) B' ∧ R ∉ B' ∧ B = R :: B' := by
    generalize xs[e] = v at ftR
    have ftR' : Jv.Ft K H4 v (.list (line.map entL)) B := ftR
    cases ftR' with
    | lst a b c => exact ⟨_, _, _, rfl, a, b, c, rfl⟩
  rw [eRx] at xe
  have lus := fb.len
  rw [List.length_map, lq] at lus
  have mR : R ∈ D :: A' := List.mem_cons_of_mem _ (subB R List.mem_cons_self)
  have nRh := nAA R mR
  have nRD : R ≠ D := fun z => nD (z ▸ subB R List.mem_cons_self)
  refine Jv.r_ixL (Jv.sqL_at eD) (Jv.at_i (by omega) (by rw [Int.toNat_natCast]; exact xe)) ?_
  walk_at "r"
  refine ⟨h, hl, _, rfl, hh4, ⟨by omega, Jv.log_small (by omega) (by omega)⟩, fun z H5 z0 z1 kp5 hh5 => ?_⟩
  obtain ⟨w', rfl⟩ : ∃ n : Nat, z = n := ⟨z.toNat, by omega⟩
  walk_at "r"
  refine Jv.r_ixL (Jv.sqL_at (kp5 _ _ nDh eD)) (Jv.at_i (by omega) (by rw [Int.toNat_natCast]; exact xe)) ?_
  walk_at "r"
  have uw : us[w']? = some us[w'] := List.getElem?_eq_getElem (by omega)
  obtain ⟨dN, C, hdN, ftN, subC, chgR⟩ := fb.chg uw
  obtain ⟨ns, hns, rfl⟩ := mapAt hdN
  have hnm := List.mem_of_getElem? hns
  obtain ⟨U, eUx, eU, eC⟩ : ∃ U, us[w'] = .ref U ∧ H4 U = some (.lst (ns.map V.int)) ∧ U ∈ C := by
    generalize us[w'] = v at ftN
    have ftN' : Jv.Ft K H4 v (.list (ns.map .int)) C := ftN
    cases ftN' with
    | lst a b c =>
      rw [Jv.dv_intsV b.dv] at a
      exact ⟨_, rfl, a, List.mem_cons_self⟩
  rw [eUx] at uw
  have mU : U ∈ D :: A' := List.mem_cons_of_mem _ (subB U (List.mem_cons_of_mem _ (subC U eC)))
  refine Jv.Sk.ix (xs := us) ⟨R, rfl, .inl (Jv.sqL_at (kp5 _ _ nRh eR))⟩ (Jv.at_i (by omega) (by rw [Int.toNat_natCast]; exact uw)) ?_
  walk_at "r"
  have lns := hw.len line hlm ns hnm
  have l6 := hw.l6
  have l0 := hw.l0
  refine ⟨h, hl, U, ns, rfl, hh5, nAA U mU, kp5 _ _ (nAA U mU) eU, ⟨by omega, by omega⟩, fun r d H6 dv f1 kp6 hh6 => ?_⟩
  walk_at "r"
  have kp46 := kp5.trans kp6
  refine Jv.r_ixL (Jv.sqL_at (kp46 _ _ nDh eD)) (Jv.at_i (by omega) (by rw [Int.toNat_natCast]; exact xe)) ?_
  walk_at "r"
  refine ⟨R, us, w', w', rfl, rfl, kp46 _ _ nRh eR, Jv.ixN_of (by omega), ?_⟩
  have oldk : ∀ a ∈ D :: A', a ≠ R → ∀ o, H4 a = some o → Jv.hide [h] (upd H6 R (.lst (us.set w' r))) a = some o := fun a m na o e => Jv.hide_at (fun m2 => nAA a m (List.mem_singleton.mp m2)) (by rw [upd_ne na]; exact kp46 _ _ (nAA a m) e)
  have dr : Jv.Dv K (Jv.hide [h] (upd H6 R (.lst (us.set w' r)))) r d := by
    have h1 : Jv.Dv K (Jv.hide [R, h] H6) r d := dv.same (Jv.newer_hide fun b m => by
      rcases List.mem_cons.mp m with z | m
      · exact ⟨_, by rw [z]; exact kp5 _ _ nRh eR⟩
      · rw [List.mem_singleton.mp m]
        obtain ⟨_, _, _, _, hA⟩ := hh5
        exact ⟨_, hA.hp⟩)
    rw [← Jv.hide_upd (o := .lst (us.set w' r))] at h1
    exact h1.same Jv.hide_less
  have row : Jv.DvAll K (Jv.hide [h] (upd H6 R (.lst (us.set w' r)))) (us.set w' r) ((line.map entL).set w' d) := chgR r d _ (fun a m _ o e => oldk a (List.mem_cons_of_mem _ (subB a (List.mem_cons_of_mem _ m))) (fun z => nR (z ▸ m)) o e) dr
  have all : Jv.DvAll K (Jv.hide [h] (upd H6 R (.lst (us.set w' r)))) xs ((L.map rowLL).set e (.list ((line.map entL).set w' d))) := by
    have h2 := chgD (.ref R) (.list ((line.map entL).set w' d)) (Jv.hide [h] (upd H6 R (.lst (us.set w' r)))) (fun a m nb o e => oldk a (List.mem_cons_of_mem _ m) (fun z => nb (by rw [z]; exact List.mem_cons_self)) o e) (.lst (Jv.hide_at (fun m => nRh (List.mem_singleton.mp m)) upd_same) row)
    rw [set_same xe] at h2
    exact h2
  refine ⟨.ref D, .list _, _, _, rfl, .lst (oldk D List.mem_cons_self (fun z => nRD z.symm) _ eD) all, ?_, kpA R _ _ mR kp46, hh6.upd nRh (nAl R mR)⟩
  refine few3_of (by rw [List.length_set, List.length_map, hw.hp]; omega) fun r' hr => ?_
  rcases mem_set hr with hr | rfl
  · exact fR r' hr
  · refine few2_of (by rw [List.length_set, List.length_map]; omega) fun x hx => ?_
    rcases mem_set hx with hx | rfl
    · exact (fR _ (List.mem_map.mpr ⟨line, hlm, rfl⟩) _ rfl).2 x hx
    · exact f1
end
end K49

namespace K49
open PySem PySem.Spec PyProof.Rows L2
/-! ### what is refused -/
def sp_Lrefused (K : PySem.W.Frag) : Sp := fun vs H Q _ => ∃ h hl x l L, ∃ p q : Nat, vs = [.ref h, .int l, x] ∧ Jv.Hand H h hl ∧ Jv.Dv K (Jv.hide [h] H) x (linLL L) ∧ Gc l L p q ∧
  ∀ H', Jv.Kp h H H' → Jv.Hand H' h hl → Q (.bl true) H'
theorem res_ne {o : Option Str} {H : Hp} {Q : VK} (h : Q (.bl false) H) : rNe (resV o) (resV o) H Q := by
  refine ⟨by cases o <;> simp [resV, scal], ?_⟩
  rw [decide_eq_true rfl]; exact h
section
variable {P : Program} {w : World} {K : PySem.W.Frag} {mg : Str → Option Value} {base : Heap}
theorem ok_Lrefused (T : Tx) (O : Ok K mg T) : FnOk P w K mg base CX0 6 T.f_Lrefused T.d_Lrefused ["_law_hand_here", "_law_ladder", "_law_lines"] (sp_Lrefused K) := by
  refine O.F_Lrefused.ok sc_Lrefused (fun vs H Q E h => by obtain ⟨_, _, _, _, _, _, _, rfl, _⟩ := h; rfl) (fun cdv A outer s H vs Q E hr h => ?_)
  obtain ⟨h, hl, x, l, L, p, q, rfl, hh, hx, hw, k⟩ := h
  refine ⟨_, (pss_cons (ps_for PassesOwn.never rfl (pi_range1 (by rfl) O.z_range (pa_cons pe_int pa_nil)) (pg_name (i := 3) sc_Lrefused.nd rfl (Or.inl rfl)) (pss_cons (ps_set (i := 4) sc_Lrefused.nd rfl (Or.inl rfl) (pe_call (ok_Lspoil_lines T O) (hr.mono (by decide)) (by rfl) O.m_Lspoil_lines O.F_Lspoil_lines.kp O.b_Lspoil_lines .nil pass0 (pa_cons (pv 0) (pa_cons (pv 2) pa_nil))))
  (pss_cons (ps_if (pt_cmpR op_ne (pe_call (ok_Lmade T O) (hr.mono (by decide)) (by rfl) O.m_Lmade O.F_Lmade.kp O.b_Lmade .nil pass0 (pa_cons (pv 1) (pa_cons (pv 4) pa_nil))) (pe_call (ok_Ldue T O) (hr.mono (by decide)) (by rfl) O.m_Ldue O.F_Ldue.kp O.b_Ldue .nil pass0 (pa_cons (pv 1) (pa_cons (pv 4) pa_nil))) (nomark _)) (pss_one (ps_ret pe_bl)) pss_nil)
  (C8.pss_cut (ps_set (i := 5) sc_Lrefused.nd rfl (Or.inl rfl) (pe_ix (r := rIxL K) ix_list (pe_lst (pa_cons (pe_un un_neg pe_int) (pa_cons pe_int (pa_cons pe_bl (pa_cons pe_non (pa_cons pe_str (pa_cons (pe_op op_add (pv 1) pe_int) (pa_cons (pe_op op_sub (pv 1) pe_int) (pa_cons (pe_op op_pow pe_int pe_int) pa_nil))))))))) (pe_call (ok_Ldraw T O) (hr.mono (by decide)) (by rfl) O.m_Ldraw O.F_Ldraw.kp O.b_Ldraw .nil pass0 (pa_cons (pv 0) (pa_cons pe_int pa_nil))) (fun _ _ => rfl)))
  (pss_one (ps_if (PW.pt (pw_or (pt_cmpR op_ne (pe_call (ok_Lmade T O) (hr.mono (by decide)) (by rfl) O.m_Lmade O.F_Lmade.kp O.b_Lmade .nil pass0 (pa_cons (pv 5) (pa_cons (pv 4) pa_nil))) (pe_call (ok_Ldue T O) (hr.mono (by decide)) (by rfl) O.m_Ldue O.F_Ldue.kp O.b_Ldue .nil pass0 (pa_cons (pv 5) (pa_cons (pv 4) pa_nil))) (nomark _)) (pw_or1 (pt_cmpR op_ne (pe_call (ok_Lmade T O) (hr.mono (by decide)) (by rfl) O.m_Lmade O.F_Lmade.kp O.b_Lmade .nil pass0 (pa_cons (pv 5) (pa_cons (pv 2) pa_nil))) (pe_call (ok_Ldue T O) (hr.mono (by decide)) (by rfl) O.m_Ldue O.F_Ldue.kp O.b_Ldue .nil pass0 (pa_cons (pv 5) (pa_cons (pv 2) pa_nil))) (nomark _))))) (pss_one (ps_ret pe_bl)) pss_nil))))))
  (pss_one (ps_ret (pe_cmpR op_isN (pe_call (ok_Lmade T O) (hr.mono (by decide)) (by rfl) O.m_Lmade O.F_Lmade.kp O.b_Lmade .nil pass0 (pa_cons (pv 1) (pa_cons (pv 2) pa_nil))) pe_non (nomark _))))), ?_⟩
  have fw : Jv.few3 (linLL L) := hw.few linesR_LL
  walk_at "r"
  refine ⟨3, rfl, by decide, by decide, ?_⟩
  refine for_range (lo := 0) (n := 3) (fun i σ H1 => ∃ y3 y4 y5, σ = [some (.ref h), some (.int l), some x, y3, y4, y5] ∧ Jv.Kp h H H1 ∧ Jv.Hand H1 h hl) ⟨_, _, _, rfl, Jv.Kp.refl, hh⟩ ?_ ?_
  · rintro i σ H1 hi ⟨y3, y4, y5, rfl, kp1, hh1⟩
    walk_at "r"
    refine ⟨h, hl, x, l, L, p, q, rfl, hh1, hx.same kp1.hide, hw, fun r d H2 dr0 fr kp2 hh2 => ?_⟩
    have dr : Jv.Dv K H2 r d := dr0.same Jv.hide_le
    have kp12 := kp1.trans kp2
    walk_at "r"
    refine ⟨_, _, _, _, rfl, .int l, dr, fr, fun H3 s3 => ?_⟩
    walk_at "r"
    refine ⟨_, _, _, _, rfl, .int l, dr.same s3, fr, fun H4 s4 => ?_⟩
    walk_at "r"
    refine res_ne ?_
    have s34 := s3.trans s4
    have hh4 := hh2.same s34
    have kp4 : Jv.Kp h H H4 := kp12.trans (Jv.Kp.same s34)
    have dr4 := dr0.same (Jv.hide_same (N := [h]) s34)
    walk_at "r"
    refine ⟨fun σ H' => ∃ v dv, σ = [some (.ref h), some (.int l), some x, some (.int (0 + (i : Nat))), some r, some v] ∧ Jv.Dv K H' v dv ∧ Jv.Kp h H4 H' ∧ Jv.Hand H' h hl, ?_, ?_⟩
    · walk_at "r"
      intro t ht
      obtain ⟨np, _⟩ := hh4.ne2 ht
      have n1 := Jv.same_new (u := .lst [.int (-1), .int 7, .bl true, .non, .str "2", .int (l + 1), .int (l - 1), .int (10 ^ Int.toNat 40)]) ht
      have hh5 := hh4.same n1
      walk_at "r"
      refine ⟨h, hl, 8, rfl, hh5, ⟨by decide, Jv.log_small (by decide) (by decide)⟩, fun z H5 z0 z1 kp5 hh5' => ?_⟩
      have ep := kp5 _ _ np upd_same
      have kp45 : Jv.Kp h H4 H5 := (Jv.Kp.same n1).trans kp5
      walk_at "r"
      obtain ⟨n, rfl⟩ : ∃ n : Nat, z = n := ⟨z.toNat, by omega⟩
      have hn : n < 8 := by omega
      show rIxL K (.ref t) (.int n) H5 _
      match n, hn with
      | 0, _ => exact Jv.r_ixL (Jv.sqL_at ep) (Jv.at_i (by decide) rfl) ⟨_, _, rfl, .int _, kp45, hh5'⟩
      | 1, _ => exact Jv.r_ixL (Jv.sqL_at ep) (Jv.at_i (by decide) rfl) ⟨_, _, rfl, .int _, kp45, hh5'⟩
      | 2, _ => exact Jv.r_ixL (Jv.sqL_at ep) (Jv.at_i (by decide) rfl) ⟨_, _, rfl, .bl _, kp45, hh5'⟩
      | 3, _ => exact Jv.r_ixL (Jv.sqL_at ep) (Jv.at_i (by decide) rfl) ⟨_, _, rfl, .non, kp45, hh5'⟩
      | 4, _ => exact Jv.r_ixL (Jv.sqL_at ep) (Jv.at_i (by decide) rfl) ⟨_, _, rfl, .str _, kp45, hh5'⟩
      | 5, _ => exact Jv.r_ixL (Jv.sqL_at ep) (Jv.at_i (by decide) rfl) ⟨_, _, rfl, .int _, kp45, hh5'⟩
      | 6, _ => exact Jv.r_ixL (Jv.sqL_at ep) (Jv.at_i (by decide) rfl) ⟨_, _, rfl, .int _, kp45, hh5'⟩
      | 7, _ => exact Jv.r_ixL (Jv.sqL_at ep) (Jv.at_i (by decide) rfl) ⟨_, _, rfl, .int _, kp45, hh5'⟩
      | n + 8, hn => omega
    rintro σ H5 ⟨v, dv, rfl, dvv, kp5, hh5⟩
    have kp05 := kp4.trans kp5
    have dr5 : Jv.Dv K H5 r d := (dr4.same kp5.hide).same Jv.hide_le
    have dx5 : Jv.Dv K H5 x (linLL L) := (hx.same kp05.hide).same Jv.hide_le
    walk_at "r"
    refine ⟨_, _, _, _, rfl, dvv, dr5, fr, fun H6 s6 => ?_⟩
    walk_at "r"
    refine ⟨_, _, _, _, rfl, dvv.same s6, dr5.same s6, fr, fun H7 s7 => ?_⟩
    walk_at "r"
    refine res_ne ?_
    have s57 := s6.trans s7
    walk_at "r"
    refine ⟨_, _, _, _, rfl, dvv.same s57, dx5.same s57, fw, fun H8 s8 => ?_⟩
    walk_at "r"
    have s58 := s57.trans s8
    refine ⟨_, _, _, _, rfl, dvv.same s58, dx5.same s58, fw, fun H9 s9 => ?_⟩
    walk_at "r"
    refine res_ne ?_
    walk_at "r"
    exact ⟨_, _, _, rfl, kp05.trans (Jv.Kp.same (s58.trans s9)), hh5.same (s58.trans s9)⟩
  · rintro σ H1 ⟨y3, y4, y5, rfl, kp1, hh1⟩
    have dx1 : Jv.Dv K H1 x (linLL L) := (hx.same kp1.hide).same Jv.hide_le
    walk_at "r"
    refine ⟨_, _, _, _, rfl, .int l, dx1, fw, fun H2 s2 => ?_⟩
    rw [(hw.good linesR_LL).nofault]
    walk_at "r"
    exact k H2 (kp1.trans (Jv.Kp.same s2)) (hh1.same s2)
end
end K49

namespace K49
open PySem PySem.Spec PyProof.Rows L2
/-! ### costs cut and added to: what the law sees -/
section
variable {dw : PyData} {l : Int} {L : List (List (List Int))} {p q : Nat}
theorem lines_shape (pr : LinesR dw L) (hp : L.length = p) (hq : ∀ line ∈ L, line.length = q) (p0 : 1 ≤ p) : Jv.linesD dw = some (p, q) := by
  obtain ⟨rows, e, pr⟩ := pr
  have hall : (rows.all fun e => (Jv.seqD e).isSome) = true := List.all_eq_true.mpr fun r hr => by
    obtain ⟨line, _, h⟩ := memL pr hr
    exact h.some
  unfold Jv.linesD
  rw [e]; dsimp only
  rw [hall, if_pos rfl, lines_len pr]
  cases L with
  | nil => exfalso; rw [← hp] at p0; exact absurd p0 (by decide)
  | cons a r =>
    rw [List.map_cons]
    show (if _ then _ else _) = _
    have h1 : a.length = q := hq a List.mem_cons_self
    have h2 : (r.map List.length).all (fun m => decide (m = a.length)) = true := List.all_eq_true.mpr fun m hm => by
      obtain ⟨b, hb, rfl⟩ := List.mem_map.mp hm
      exact decide_eq_true (by rw [h1]; exact hq b (List.mem_cons_of_mem _ hb))
    rw [h2, if_pos rfl, List.length_map, h1, ← hp]; rfl
theorem Gc.addq (w : Gc l L p q) (b : Int) : ∀ line ∈ addC b L, line.length = q := fun line hm => by
  obtain ⟨l0, h2, rfl⟩ := List.mem_map.mp hm
  rw [List.length_map]; exact w.hq l0 h2
theorem Gc.addp (w : Gc l L p q) (b : Int) : (addC b L).length = p := by unfold addC; rw [List.length_map]; exact w.hp
theorem Gc.addl (w : Gc l L p q) (b : Int) : ∀ line ∈ addC b L, ∀ ns ∈ line, (ns.length : Int) = l + 1 := fun line hm ns hn => by
  obtain ⟨l0, h2, rfl⟩ := List.mem_map.mp hm
  obtain ⟨n0, h3, rfl⟩ := List.mem_map.mp hn
  rw [List.length_map]; exact w.len l0 h2 n0 h3
theorem Gc.addF (w : Gc l L p q) (b : Int) : FL (addC b L) :=
  ⟨by rw [w.addp]; have := w.p6; omega, fun line h => ⟨by rw [w.addq b line h]; have := w.q6; omega, fun ns h2 => by have := w.addl b line h ns h2; have := w.l6; omega⟩⟩
theorem Gc.addw (w : Gc l L p q) (b : Int) : Jv.few3 (linLL (addC b L)) := few_lines (linesR_LL (L := addC b L)) (by rw [w.addp]; have := w.p6; omega) (fun line h => by rw [w.addq b line h]; have := w.q6; omega) fun line h ns h2 => by have := w.addl b line h ns h2; have := w.l6; omega
theorem Gc.add_fault (w : Gc l L p q) (b : Int) : faultC (.int l) (linLL (addC b L)) = if allEnt l (linLL (addC b L)) = false then some ("cost" : Str) else none := by
  have h1 : Jv.wholeD (.int l) (.int 0) (.int 6) = true := by
    show (decide (0 ≤ l) && decide (l ≤ 6)) = true
    rw [decide_eq_true w.l0, decide_eq_true w.l6]; rfl
  have h2 : Jv.sidesD (sidesOf (Jv.linesD (linLL (addC b L)))) = true := by
    rw [lines_shape linesR_LL (w.addp b) (w.addq b) w.p0]
    show decide _ = true
    have h := w.pq
    refine decide_eq_true ⟨⟨?_, ?_⟩, ⟨?_, ?_⟩, ?_⟩
    · have := w.p0; omega
    · have := w.p6; omega
    · have := w.q0; omega
    · have := w.q6; omega
    · exact_mod_cast h
  unfold faultC
  dsimp only
  rw [h1, h2, if_neg (by decide), if_neg (by decide)]
theorem Gc.add_ok (w : Gc l L p q) {b : Int} (h : allEnt l (linLL (addC b L)) = true) : Gc l (addC b L) p q := by
  refine ⟨w.l0, w.l6, w.addp b, w.addq b, w.p0, w.p6, w.q0, w.q6, w.pq, w.addl b, fun line hm ns hn => ?_⟩
  unfold allEnt at h
  have h1 := List.all_eq_true.mp h (.list (ns.map .int)) (List.mem_flatMap.mpr ⟨.list (line.map fun ns => .list (ns.map .int)), List.mem_map.mpr ⟨line, hm, rfl⟩, List.mem_map.mpr ⟨ns, hn, rfl⟩⟩)
  obtain ⟨ms, e, _, bd, _⟩ := ent_ok h1
  have e2 : ns = ms := (List.map_inj_right (fun _ _ h => PyData.int.inj h)).mp (Option.some.inj e)
  rw [e2]; exact bd
end
def addR (l : Int) (L : List (List (List Int))) : PyData → PyData
  | .int b => if -1000000 ≤ b ∧ b ≤ 1000000 then (if allEnt l (linLL (addC b L)) = false then .str "cost" else .tuple [.int l, linT (addC b L)]) else .str "amount"
  | _ => .str "amount"
theorem addR_no {l : Int} {L : List (List (List Int))} {d : PyData} (h : Jv.wholeD d (.int (-1000000)) (.int 1000000) = false) : addR l L d = .str "amount" := by
  cases d with
  | int b =>
    show (if _ then _ else _) = _
    rw [if_neg]
    intro hb
    rw [show Jv.wholeD (.int b) (.int (-1000000)) (.int 1000000) = (decide (-1000000 ≤ b) && decide (b ≤ 1000000)) from rfl, decide_eq_true hb.1, decide_eq_true hb.2] at h
    cases h
  | _ => rfl
/-- lines made so far, in a list that grows -/
def DvAll' (K : PySem.W.Frag) (D : Addr) (H : Hp) (xs : List V) (L : List (List (List Int))) : Prop := Jv.DvAll K (Jv.hide [D] H) xs (L.map fun line => .list (line.map fun ns => .list (ns.map .int)))
def sp_Lcut (K : PySem.W.Frag) (C : Addr) : Sp := fun vs H Q _ => ∃ a x d l L, ∃ p q : Nat, vs = [.ref a, x] ∧ CAt K H C a l (linT L) p q ∧ Gc l L p q ∧ Jv.Dv K H x d ∧
  ((∃ m, d = .int m ∧ 0 ≤ m ∧ m ≤ l ∧ ∀ r H', Same H H' → Jv.Dv K H' r (.tuple [.int m, linT (cutC (m + 1).toNat L)]) → Q r H') ∨
   (Jv.wholeD d (.int 0) (.int l) = false ∧ ∀ H', Same H H' → Q (.str "ladder") H'))
def sp_Ladded (K : PySem.W.Frag) (C : Addr) : Sp := fun vs H Q _ => ∃ a x d l L, ∃ p q : Nat, vs = [.ref a, x] ∧ CAt K H C a l (linT L) p q ∧ Gc l L p q ∧ Jv.Dv K H x d ∧ ∀ r H', Same H H' → Jv.Dv K H' r (addR l L d) → Q r H'
def sp_Ladded_due (K : PySem.W.Frag) : Sp := fun vs H Q _ => ∃ x y d l L, ∃ p q : Nat, vs = [.int l, x, y] ∧ Gc l L p q ∧ Jv.Dv K H x (linLL L) ∧ Jv.Dv K H y d ∧ ∀ r H', Same H H' → Jv.Dv K H' r (addR l L d) → Q r H'
section
variable {P : Program} {w : World} {K : PySem.W.Frag} {mg : Str → Option Value} {base : Heap}
theorem r_methC {m : Str} {C : Addr} {sp : Sp} {dvs : List V} {E : L2.St → XK} {ta : TE} {t : TA} {σ : L2.St} {H : Hp} {Q : VK} (h : ta σ H fun x H1 => ∃ a dx fs, x = .ref a ∧ H1 a = some (.ins C dx fs) ∧ fs.lookup m = none ∧ t σ H1 fun vs H2 => sp (x :: (vs ++ dvs)) H2 Q (E σ)) : Jv.tMethX C m sp dvs E ta t σ H Q := h
theorem ok_Lcut (T : Tx) (O : Ok K mg T) : FnOk P w K mg base CX0 6 T.f_Lcut T.d_Lcut ["_law_costs", "_law_ladder"] (sp_Lcut K T.C_Costs) := by
  refine O.F_Lcut.ok sc_Lcut (fun vs H Q E h => by obtain ⟨_, _, _, _, _, _, _, rfl, _⟩ := h; rfl) (fun cdv A outer s H vs Q E hr h => ?_)
  obtain ⟨a, x, d, l, L, p, q, rfl, hc, hw, hx, qq⟩ := h
  refine ⟨_, (pss_one (ps_try_as (i := 3) rfl rfl sc_Lcut.nd rfl rfl ⟨rfl, by decide, .inl O.m_BadCosts⟩ takes0 (fun W pn xe tk _ => (pss_cons (ps_set (i := 2) sc_Lcut.nd rfl (Or.inl rfl) (Jv.pe_methX (pv 0) O.o_Costs O.h_Costs_cut (ok_Costs_cut T O) (hr.mono (by decide)) O.b_Costs_cut .nil (fun σ => passAt tk σ) (pa_cons (pv 1) pa_nil)))
  (pss_one (ps_ret (pe_tup (pa_cons (show PE _ _ (tFld K _ _) from pe_fld (pv 2) rfl) (pa_cons (show PE _ _ (tFld K _ _) from pe_fld (pv 2) rfl) pa_nil))))))) (fun a oe cls d pn hz hf => (pss_one (ps_ret (pe_xf O.x_BadCosts.f O.n_BadCosts_what hz hf (pv 3))))))), ?_⟩
  obtain ⟨dx, wv, tv, hca, _⟩ := id hc
  walk_at "r"
  refine r_methC ?_
  walk_at "r"
  refine ⟨a, dx, _, rfl, hca, rfl, ?_⟩
  walk_at "r"
  refine ⟨a, x, d, l, L, p, q, rfl, hc, hw, hx, ?_⟩
  rcases qq with ⟨m, rfl, m0, m1, k⟩ | ⟨hf, k⟩
  · refine .inl ⟨m, rfl, m0, m1, fun r H1 s1 ga => ?_⟩
    obtain ⟨dx1, wv1, tv1, hr1, hW1, _⟩ := id ga
    walk_at "r"
    refine Jv.r_fld ?_
    walk_at "r"
    refine ⟨r, _, dx1, _, _, rfl, hr1, O.o_Costs, O.n_Costs_ladder, rfl, ?_⟩
    walk_at "r"
    refine Jv.r_fld ?_
    walk_at "r"
    refine ⟨r, _, dx1, _, _, rfl, hr1, O.o_Costs, O.n_Costs_lines, rfl, ?_⟩
    walk_at "r"
    intro t ht
    have n1 := Jv.same_new (u := .tup [.int m, wv1]) ht
    exact k _ _ (s1.trans n1) (.tup (Jv.sqT_at upd_same) (.cons (.int _) (.cons (hW1.same n1) .nil)))
  · refine .inr ⟨hf, fun e H1 s1 hd => ?_⟩
    refine ⟨true, O.x_BadCosts.e, fun _ a ha => ?_, fun z => nomatch z⟩
    walk_at "r"
    refine ⟨_, rfl, rfl, rfl, e, _, _, rfl, hd, rfl, ?_⟩
    exact k _ s1
theorem ok_Ladded (T : Tx) (O : Ok K mg T) : FnOk P w K mg base CX0 6 T.f_Ladded T.d_Ladded ["_law_costs", "_law_amount"] (sp_Ladded K T.C_Costs) := by
  refine O.F_Ladded.ok sc_Ladded (fun vs H Q E h => by obtain ⟨_, _, _, _, _, _, _, rfl, _⟩ := h; rfl) (fun cdv A outer s H vs Q E hr h => ?_)
  obtain ⟨a, x, d, l, L, p, q, rfl, hc, hw, hx, k⟩ := h
  refine ⟨_, (pss_one (ps_try_as (i := 3) rfl rfl sc_Ladded.nd rfl rfl ⟨rfl, by decide, .inl O.m_BadCosts⟩ takes0 (fun W pn xe tk _ => (pss_cons (ps_set (i := 2) sc_Ladded.nd rfl (Or.inl rfl) (Jv.pe_methX (pv 0) O.o_Costs O.h_Costs_added (ok_Costs_added T O) (hr.mono (by decide)) O.b_Costs_added .nil (fun σ => passAt tk σ) (pa_cons (pv 1) pa_nil)))
  (pss_one (ps_ret (pe_tup (pa_cons (show PE _ _ (tFld K _ _) from pe_fld (pv 2) rfl) (pa_cons (show PE _ _ (tFld K _ _) from pe_fld (pv 2) rfl) pa_nil))))))) (fun a oe cls d pn hz hf => (pss_one (ps_ret (pe_xf O.x_BadCosts.f O.n_BadCosts_what hz hf (pv 3))))))), ?_⟩
  obtain ⟨dx, wv, tv, hca, _⟩ := id hc
  walk_at "r"
  refine r_methC ?_
  walk_at "r"
  refine ⟨a, dx, _, rfl, hca, rfl, ?_⟩
  walk_at "r"
  refine ⟨a, x, d, l, L, p, q, rfl, hc, hw, hx, ?_⟩
  cases ew : Jv.wholeD d (.int (-1000000)) (.int 1000000) with
  | false =>
    refine .inr (.inr ⟨rfl, fun e H1 s1 hd => ?_⟩)
    rw [addR_no ew] at k
    refine ⟨true, O.x_BadCosts.e, fun _ a ha => ?_, fun z => nomatch z⟩
    walk_at "r"
    refine ⟨_, rfl, rfl, rfl, e, _, _, rfl, hd, rfl, ?_⟩
    exact k _ _ s1 (.str _)
  | true =>
    obtain ⟨b, rfl, b0, b1⟩ := Jv.wholeD_int ew
    have ek : addR l L (.int b) = if allEnt l (linLL (addC b L)) = false then .str "cost" else .tuple [.int l, linT (addC b L)] := if_pos ⟨b0, b1⟩
    rw [ek] at k
    cases ea : allEnt l (linLL (addC b L)) with
    | false =>
      rw [ea, if_pos rfl] at k
      refine .inr (.inl ⟨b, rfl, ⟨b0, b1⟩, by rw [hw.add_fault b, ea, if_pos rfl]; rfl, fun e H1 s1 hd => ?_⟩)
      refine ⟨true, O.x_BadCosts.e, fun _ a ha => ?_, fun z => nomatch z⟩
      walk_at "r"
      refine ⟨_, rfl, rfl, rfl, e, _, _, rfl, hd, rfl, ?_⟩
      exact k _ _ s1 (.str _)
    | true =>
      rw [ea, if_neg (by decide)] at k
      refine .inl ⟨b, rfl, ⟨b0, b1⟩, hw.add_ok ea, fun r H1 s1 ga => ?_⟩
      obtain ⟨dx1, wv1, tv1, hr1, hW1, _⟩ := id ga
      walk_at "r"
      refine Jv.r_fld ?_
      walk_at "r"
      refine ⟨r, _, dx1, _, _, rfl, hr1, O.o_Costs, O.n_Costs_ladder, rfl, ?_⟩
      walk_at "r"
      refine Jv.r_fld ?_
      walk_at "r"
      refine ⟨r, _, dx1, _, _, rfl, hr1, O.o_Costs, O.n_Costs_lines, rfl, ?_⟩
      walk_at "r"
      intro t ht
      have n1 := Jv.same_new (u := .tup [.int l, wv1]) ht
      exact k _ _ (s1.trans n1) (.tup (Jv.sqT_at upd_same) (.cons (.int _) (.cons (hW1.same n1) .nil)))
theorem ok_Ladded_due (T : Tx) (O : Ok K mg T) : FnOk P w K mg base CX0 3 T.f_Ladded_due T.d_Ladded_due ["_law_ladder", "_law_lines", "_law_amount"] (sp_Ladded_due K) := by
  refine O.F_Ladded_due.ok sc_Ladded_due (fun vs H Q E h => by obtain ⟨_, _, _, _, _, _, _, rfl, _⟩ := h; rfl) (fun cdv A outer s H vs Q E hr h => ?_)
  obtain ⟨x, y, d, l, L, p, q, rfl, hw, hx, hy, k⟩ := h
  refine ⟨_, (pss_cons (ps_if (PW.pt (pw_or (pt_not (pt_val (pe_call (ok_Lwhole T O) (hr.mono (by decide)) (by rfl) O.m_Lwhole O.F_Lwhole.kp O.b_Lwhole .nil pass0 (pa_cons (pv 2) pa_nil)))) (pw_or1 (pt_not (pt_chain op_le op_le (pe_un un_neg (pe_op op_pow pe_int pe_int)) (pv 2) (pe_op op_pow pe_int pe_int)))))) (pss_one (ps_ret pe_str)) pss_nil)
  (pss_cons (ps_set (i := 3) sc_Ladded_due.nd rfl (Or.inl rfl) (pe_lst pa_nil))
  (pss_cons (ps_for PassesOwn.never rfl (Jv.piOr (show PI _ _ _ (iList K _) from pi_list (pv 1)) (show PI _ _ _ (iTup K _) from pi_tup (pv 1))) (pg_name (i := 4) sc_Ladded_due.nd rfl (Or.inl rfl)) (pss_one (ps_expr (show PE _ _ (tBM K _ _ _ _) from pe_bm PySem.F.plainAttrs_list PySem.F.slot_list_append PySem.F.type_list_append mt_append (pv 3) (pa_cons (pe_lc (own := [("_law_entry", 5)]) (by rfl) sc_Ladded_due.nd (Jv.piOr (show PI _ _ _ (iList K _) from pi_list (pv 4)) (show PI _ _ _ (iTup K _) from pi_tup (pv 4))) (blkOk_by (own := [("_law_entry", 5)]) (N := ["_law_ladder", "_law_lines", "_law_amount", "_law_more", "_law_line", "_law_entry", "_law_cost"]) (sc := defScope s_Ladded_due) (scope := ({ kind := .function, names := [(".0", .local), ("_law_entry", .local), ("_law_amount", .free)], isGenerator := false, isCoroutine := false } : Scope)) (by decide +kernel)) (fun _ _ _ _ _ => (pg_name (i := 5) sc_Ladded_due.nd rfl (Or.inl rfl))) (fun _ _ _ _ _ => pts_nil) (fun _ _ _ _ _ => (pe_lc (own := [("_law_cost", 6)]) (by rfl) sc_Ladded_due.nd (Jv.piOr (show PI _ _ _ (iList K _) from pi_list (pv 5)) (show PI _ _ _ (iTup K _) from pi_tup (pv 5))) (blkOk_by (own := [("_law_cost", 6)]) (N := ["_law_ladder", "_law_lines", "_law_amount", "_law_more", "_law_line", "_law_entry", "_law_cost"]) (sc := ({ kind := .function, names := [(".0", .local), ("_law_entry", .local), ("_law_amount", .cell)], isGenerator := false, isCoroutine := false } : Scope)) (scope := ({ kind := .function, names := [(".0", .local), ("_law_cost", .local), ("_law_amount", .free)], isGenerator := false, isCoroutine := false } : Scope)) (by decide +kernel)) (fun _ _ _ _ _ => (pg_name (i := 6) sc_Ladded_due.nd rfl (Or.inl rfl))) (fun _ _ _ _ _ => pts_nil) (fun _ _ _ _ _ => (pe_op op_add (pv 6) (pv 2)))))) pa_nil)))))
  (pss_cons (ps_if (pt_cmpR op_notN (pe_call (ok_Ldue T O) (hr.mono (by decide)) (by rfl) O.m_Ldue O.F_Ldue.kp O.b_Ldue .nil pass0 (pa_cons (pv 0) (pa_cons (pv 3) pa_nil))) pe_non (nomark _)) (pss_one (ps_ret pe_str)) pss_nil)
  (pss_one (ps_ret (pe_tup (pa_cons (pv 0) (pa_cons (pe_call (ok_Ltuples T O) (hr.mono (by decide)) (by rfl) O.m_Ltuples O.F_Ltuples.kp O.b_Ltuples .nil pass0 (pa_cons (pv 3) pa_nil)) pa_nil))))))))), ?_⟩
  walk_at "r"
  refine ⟨_, _, rfl, hy, ?_⟩
  by_cases hi : ∃ b, d = .int b
  case neg =>
    have e2 : Jv.intD d = false := by
      cases d with
      | int l => exact absurd ⟨l, rfl⟩ hi
      | _ => rfl
    have e3 : addR l L d = .str "amount" := by
      cases d with
      | int l => exact absurd ⟨l, rfl⟩ hi
      | _ => rfl
    rw [e2]
    rw [e3] at k
    walk_at "r"
    exact k _ _ (Same.refl _) (.str _)
  obtain ⟨b, rfl⟩ := hi
  cases hy
  have e6 : (10 : Int) ^ Int.toNat 6 = 1000000 := by decide
  walk_at "r"
  rw [e6]
  refine Jv.r_dec (fun b0 => ?_) (fun b0 => ?_)
  case refine_2 =>
    have e3 : addR l L (.int b) = .str "amount" := if_neg fun h => b0 h.1
    rw [e3] at k
    walk_at "r"
    exact k _ _ (Same.refl _) (.str _)
  walk_at "r"
  rw [e6]
  refine Jv.r_ndec (fun b1 => ?_) (fun b1 => ?_)
  · have e3 : addR l L (.int b) = .str "amount" := if_neg fun h => absurd h.2 (by omega)
    rw [e3] at k
    walk_at "r"
    exact k _ _ (Same.refl _) (.str _)
  have ek : addR l L (.int b) = if allEnt l (linLL (addC b L)) = false then .str "cost" else .tuple [.int l, linT (addC b L)] := if_pos ⟨b0, by omega⟩
  rw [ek] at k
  have p6 := hw.p6
  have q6 := hw.q6
  have l6 := hw.l6
  obtain ⟨ws, skW, alW⟩ := hx.sk rfl
  have lws := alW.len
  rw [List.length_map, hw.hp] at lws
  walk_at "r"
  intro D hD
  have s0 := Jv.same_new (u := .lst []) hD
  walk_at "r"
  refine Jv.for_sk0 (i := 1) (H0 := H) rfl skW s0 (fun j σ H1 => ∃ y4 y5 y6 xs, σ = [some (.int l), some x, some (.int b), some (.ref D), y4, y5, y6] ∧ Same H H1 ∧ H1 D = some (.lst xs) ∧ DvAll' K D H1 xs ((addC b L).take j) ∧ xs.length = j)
    ⟨_, _, _, [], rfl, s0, upd_same, .nil, rfl⟩ (fun j σ' H' ⟨_, _, _, _, _, s, _⟩ => s) ?_ ?_
  · rintro j v σ H1 hv ⟨y4, y5, y6, xs, rfl, s1, eD, al, ln⟩
    have hj : j < ws.length := (List.getElem?_eq_some_iff.mp hv).1
    obtain ⟨dl, c1, c2⟩ := alW.at hv
    obtain ⟨line, c3, rfl⟩ := mapAt c1
    have hline := List.mem_of_getElem? c3
    have hlq := hw.hq line hline
    obtain ⟨us, skU, alU⟩ := (c2.same s1).sk rfl
    have lus := alU.len
    rw [List.length_map] at lus
    walk_at "r"
    have hN : Jv.Held [D] H1 := fun b m => by rw [List.mem_singleton.mp m]; exact ⟨_, eD⟩
    refine Jv.lcS2 (K := K) (N := [D]) (j := 5) (i := 4) rfl skU hN ((line.map fun ns => ns.map (· + b)).map fun ns => .list (ns.map .int)) (by rw [List.length_map, List.length_map]; omega) (by omega) (fun i2 u e2' D2 H7 hi2 hu he2 s7 hN2 hD2 PP2 hP2 => ?_) (fun D2 ys2 H7 s7 hD2 eD2 dv2 _ => ?_)
    · obtain ⟨dn, g1, g2⟩ := alU.at hu
      obtain ⟨ns, g3, rfl⟩ := mapAt g1
      have hns := List.mem_of_getElem? g3
      have hnl := hw.len line hline ns hns
      have ee2 : e2' = .list ((ns.map (· + b)).map .int) := by
        rw [List.map_map, List.getElem?_map, g3] at he2
        exact (Option.some.inj he2).symm
      subst ee2
      obtain ⟨zs, skZ, alZ⟩ := (g2.same s7).sk rfl
      obtain rfl := Jv.dv_intsV alZ
      walk_at "r"
      refine Jv.lcS2 (K := K) (N := [D2, D]) (j := 6) (i := 5) rfl skZ hN2 ((ns.map (· + b)).map .int) (by simp) (by rw [List.length_map]; omega) (fun i3 z e3 D3 H8 hi3 hz he3 s8 hN3 hD3 PP3 hP3 => ?_) (fun D3 ys3 H8 s8 hD3 eD3 dv3 _ => ?_)
      · obtain ⟨n, hn, rfl⟩ := Jv.map_at hz
        have ee3 : e3 = .int (n + b) := by
          rw [List.map_map, List.getElem?_map, hn] at he3
          exact (Option.some.inj he3).symm
        subst ee3
        walk_at "r"
        exact hP3 _ _ (Same.refl _) (.int _)
      · exact hP2 _ _ s8 (.lst (Jv.hide_at (by
          intro m
          obtain ⟨o, ho⟩ := hN2 D3 m
          rw [hD3] at ho; cases ho) eD3) dv3)
    · walk_at "r"
      refine Jv.r_app (s7 _ _ eD) (by omega) ?_
      have nD : D2 ≠ D := fun z => by rw [z, eD] at hD2; cases hD2
      refine ⟨_, _, _, xs ++ [.ref D2], rfl, ?_, upd_same, ?_, by rw [List.length_append, ln]; rfl⟩
      · intro c o hc
        rw [upd_ne (ne_of_none hc hD)]
        exact s7 _ _ (s1 _ _ hc)
      · unfold DvAll' at al ⊢
        rw [Jv.hide_upd]
        have c4 : (addC b L)[j]? = some (line.map fun ns => ns.map (· + b)) := by unfold addC; rw [List.getElem?_map, c3]; rfl
        rw [Jv.take_more c4, List.map_append]
        exact Jv.DvAll.snoc (.lst (Jv.hide_at (fun m => nD (List.mem_singleton.mp m)) eD2) dv2) (al.same (Jv.hide_same s7))
  · rintro σ H1 ⟨y4, y5, y6, xs, rfl, s1, eD, al, ln⟩
    have al2 : Jv.DvAll K H1 xs ((addC b L).map fun line => .list (line.map fun ns => .list (ns.map .int))) := by
      unfold DvAll' at al
      rw [List.take_of_length_le (by rw [hw.addp]; omega)] at al
      exact al.same Jv.hide_le
    have dD : Jv.Dv K H1 (.ref D) (linLL (addC b L)) := .lst eD al2
    walk_at "r"
    refine ⟨_, _, _, _, rfl, .int l, dD, hw.addw b, fun H2 s2 => ?_⟩
    rw [hw.add_fault b]
    cases ea : allEnt l (linLL (addC b L)) with
    | false =>
      rw [ea, if_pos rfl] at k
      rw [if_pos rfl]
      walk_at "r"
      exact k _ _ (s1.trans s2) (.str _)
    | true =>
      rw [ea, if_neg (by decide)] at k
      rw [if_neg (by decide)]
      walk_at "r"
      refine ⟨_, _, rfl, dD.same s2, hw.addF b, fun r H3 s3 dv => ?_⟩
      walk_at "r"
      intro t ht
      have n1 := Jv.same_new (u := .tup [.int l, r]) ht
      exact k _ _ (s1.trans (s2.trans (s3.trans n1))) (.tup (Jv.sqT_at upd_same) (.cons (.int _) (.cons (dv.same n1) .nil)))
end
end K49

namespace Jv
open PySem PySem.Spec PyProof.Rows L2
/-! ### a clause of another class -/
theorem exm_no {K : PySem.W.Frag} {C D : Addr} (b : PySem.W.subIn K (.ref D) (.type "BaseException") = some true) (i : PySem.W.isClsIn K D = true) (t : PySem.W.typeIn K (.ref D) = some (.type "type")) (s : PySem.W.subIn K (.ref C) (.ref D) = some false) :
    PySem.W.exmOne K (.ref C) (.ref D) = some false := by
  have i' : (PySem.W.clsIn K D).isSome = true := i
  unfold PySem.W.exmOne PySem.W.kitCls
  simp [b, i', t, s]
theorem ExcP.no {K : PySem.W.Frag} {C D : Addr} (h : ExcP K D) (s : PySem.W.subIn K (.ref C) (.ref D) = some false) : PySem.W.exmOne K (.ref C) (.ref D) = some false := exm_no h.b h.i h.t s
end Jv
namespace K49
open PySem PySem.Spec PyProof.Rows L2
/-! ### orders, and costs renumbered: what the law sees -/
theorem perm_of_sub : ∀ (a b : List Int), a.Nodup → (∀ z ∈ a, z ∈ b) → b.length ≤ a.length → b.Perm a
  | [], b, _, _, h => by
    have : b = [] := List.eq_nil_of_length_eq_zero (by simpa using h)
    rw [this]
  | x :: r, b, hn, hs, hl => by
    have hx : x ∈ b := hs x List.mem_cons_self
    have h1 := List.perm_cons_erase hx
    rw [List.nodup_cons] at hn
    have h2 := perm_of_sub r (b.erase x) hn.2 (fun z hz => (List.mem_erase_of_ne (fun (e : z = x) => hn.1 (by rw [← e]; exact hz))).mpr (hs z (List.mem_cons_of_mem _ hz))) (by
      rw [List.length_erase_of_mem hx]
      rw [List.length_cons] at hl
      omega)
    exact h1.trans (h2.cons x)
def rg0 (n : Nat) : List Int := (List.range n).map fun (i : Nat) => (0 + (i : Int))
theorem rg0_eq (n : Nat) : rg0 n = (List.range n).map fun (i : Nat) => (i : Int) := by unfold rg0; congr 1; funext i; omega
theorem rg0_nodup (n : Nat) : (rg0 n).Nodup := by
  rw [rg0_eq]
  exact List.Pairwise.map _ (fun a b h => by intro e; exact h (by omega)) List.nodup_range
theorem order_iff {m : Int} {ns : List Int} (hk : Jv.inK m ns) (hl : (ns.length : Int) = m) : ((rg0 m.toNat).filter fun n => !decide (n ∈ ns)) = [] ↔ Jv.orderP m ns := by
  rw [List.filter_eq_nil_iff]
  constructor
  · intro h
    refine ⟨hk, ?_⟩
    rw [← rg0_eq]
    refine perm_of_sub _ _ (rg0_nodup _) (fun z hz => ?_) (by unfold rg0; rw [List.length_map, List.length_range]; omega)
    have := h z hz
    simpa using this
  · rintro ⟨_, hp⟩ z hz
    rw [rg0_eq] at hz
    simpa using hp.mem_iff.mpr hz
theorem orderD_no {k : Int} {d : PyData} {ds : List PyData} (e : Jv.seqD d = some ds) (n : ∀ ns : List Int, ds = ns.map .int → ¬ Jv.orderP k ns) : orderD k d = false := by
  unfold orderD
  rw [e]; dsimp only
  cases e2 : intsD ds with
  | none => rfl
  | some ns => exact decide_eq_false (n ns (intsD_of e2))
theorem orderD_yes {k : Int} {d : PyData} (h : orderD k d = true) : ∃ ns, Jv.seqD d = some (ns.map .int) ∧ Jv.orderP k ns := by
  unfold orderD at h
  cases e : Jv.seqD d with
  | none => rw [e] at h; cases h
  | some ds =>
    rw [e] at h; dsimp only at h
    cases e2 : intsD ds with
    | none => rw [e2] at h; cases h
    | some ns =>
      rw [e2] at h
      exact ⟨ns, by rw [intsD_of e2], of_decide_eq_true h⟩
theorem ints_of {m : Int} : ∀ {ds : List PyData}, (∀ d ∈ ds, ∃ i, d = .int i ∧ 0 ≤ i ∧ i < m) → ∃ ns : List Int, ds = ns.map .int ∧ Jv.inK m ns
  | [], _ => ⟨[], rfl, fun _ h => nomatch h⟩
  | d :: r, h => by
    obtain ⟨i, rfl, h0, h1⟩ := h d List.mem_cons_self
    obtain ⟨ns, rfl, hk⟩ := ints_of fun e he => h e (List.mem_cons_of_mem _ he)
    exact ⟨i :: ns, rfl, fun z hz => by
      rcases List.mem_cons.mp hz with rfl | hz
      · exact ⟨h0, by omega⟩
      · exact hk z hz⟩
theorem order_len_int {k : Int} {ns : List Int} (h : Jv.orderP k ns) : (ns.length : Int) = (k.toNat : Int) := by
  rw [h.2.length_eq]; simp
def intsOf (d : PyData) : List Int := ((Jv.seqD d).bind intsD).getD []
theorem intsOf_eq {d : PyData} {ns : List Int} (h : Jv.seqD d = some (ns.map .int)) : intsOf d = ns := by unfold intsOf; rw [h, Option.bind_some, intsD_map]; rfl
def sideR : PyData := .tuple [.str "side", .none]
def lotR (s : Int) : PyData := .tuple [.str "lot", .int s]
def renD (L : List (List (List Int))) (p q : Nat) (ds d : PyData) : PyData :=
  if Jv.wholeD ds (.int 0) (.int 1) = false then sideR
  else match ds with
    | .int s => if s = 0 then (if orderD p d = true then linT (rowL L (intsOf d)) else lotR 0) else (if orderD q d = true then linT (colL L (intsOf d)) else lotR 1)
    | _ => sideR
def sp_Lis_order (K : PySem.W.Frag) : Sp := fun vs H Q _ => ∃ y d m, vs = [y, .int m] ∧ Jv.Dv K H y d ∧ few60 d ∧ (0 ≤ m ∧ m ≤ 60) ∧ ∀ H', Same H H' → Q (.bl (orderD m d)) H'
def sp_Lrenumbered (K : PySem.W.Frag) (C : Addr) : Sp := fun vs H Q _ => ∃ a sv x l L, ∃ p q : Nat, ∃ ds d, vs = [.ref a, sv, x] ∧ CAt K H C a l (linT L) p q ∧ Gc l L p q ∧ Jv.Dv K H sv ds ∧ Jv.Dv K H x d ∧ few60 d ∧
  ∀ r H', Same H H' → Jv.Dv K H' r (renD L p q ds d) → Q r H'
def sp_Lrenumbered_due (K : PySem.W.Frag) : Sp := fun vs H Q _ => ∃ x sv y l L, ∃ p q : Nat, ∃ ds d, vs = [x, sv, y] ∧ Gc l L p q ∧ Jv.Dv K H x (linLL L) ∧ Jv.Dv K H sv ds ∧ Jv.Dv K H y d ∧ few60 d ∧
  ∀ r H', Same H H' → Jv.Dv K H' r (renD L p q ds d) → Q r H'
theorem renD_no {L : List (List (List Int))} {p q : Nat} {ds d : PyData} (h : Jv.wholeD ds (.int 0) (.int 1) = false) : renD L p q ds d = sideR := if_pos h
theorem whole01 {s : Int} (h : s = 0 ∨ s = 1) : Jv.wholeD (.int s) (.int 0) (.int 1) = true := by rcases h with rfl | rfl <;> rfl
theorem renD_0 {L : List (List (List Int))} {p q : Nat} {d : PyData} : renD L p q (.int 0) d = if orderD p d = true then linT (rowL L (intsOf d)) else lotR 0 := by
  unfold renD
  rw [if_neg (by rw [whole01 (.inl rfl)]; decide)]
  exact if_pos rfl
theorem renD_1 {L : List (List (List Int))} {p q : Nat} {d : PyData} : renD L p q (.int 1) d = if orderD q d = true then linT (colL L (intsOf d)) else lotR 1 := by
  unfold renD
  rw [if_neg (by rw [whole01 (.inr rfl)]; decide)]
  exact if_neg (by decide)
theorem rows_FL {l : Int} {L : List (List (List Int))} {p q : Nat} (w : Gc l L p q) {ns : List Int} (h : Jv.orderP p ns) : FL (rowL L ns) := (w.rows h).fl
theorem cols_FL {l : Int} {L : List (List (List Int))} {p q : Nat} (w : Gc l L p q) {ns : List Int} (h : Jv.orderP q ns) : FL (colL L ns) := (w.cols h).fl
section
variable {P : Program} {w : World} {K : PySem.W.Frag} {mg : Str → Option Value} {base : Heap}
theorem ok_Lis_order (T : Tx) (O : Ok K mg T) : FnOk P w K mg base CX0 2 T.f_Lis_order T.d_Lis_order ["_law_order_here", "_law_many"] (sp_Lis_order K) := by
  refine O.F_Lis_order.ok sc_Lis_order (fun vs H Q E h => by obtain ⟨_, _, _, rfl, _⟩ := h; rfl) (fun cdv A outer s H vs Q E hr h => ?_)
  obtain ⟨y, d, m, rfl, hy, few, ⟨m0, m6⟩, k⟩ := h
  refine ⟨_, (pss_cons (ps_if (PW.pt (pw_or (pt_not (pt_val (pe_callB (r := rIsiT K) call_isiT (by rfl) O.z_isinstance (by decide +kernel) (pa_cons (pv 0) (pa_cons (pe_tup (pa_cons (pe_bltn (v := .ty "list") (by rfl) O.z_list (by decide +kernel) rfl) (pa_cons (pe_bltn (v := .ty "tuple") (by rfl) O.z_tuple (by decide +kernel) rfl) pa_nil))) pa_nil))))) (pw_or1 (pt_cmpR op_ne (pe_callB (r := Jv.rLenK K) Jv.cr_len (by rfl) O.z_len (by decide +kernel) (pa_cons (pv 0) pa_nil)) (pv 1) (nomark _))))) (pss_one (ps_ret pe_bl)) pss_nil)
  (pss_cons (ps_for PassesOwn.never rfl (Jv.piOr (show PI _ _ _ (iList K _) from pi_list (pv 0)) (show PI _ _ _ (iTup K _) from pi_tup (pv 0))) (pg_name (i := 2) sc_Lis_order.nd rfl (Or.inl rfl)) (pss_one (ps_if (PW.pt (pw_or (pt_not (pt_val (pe_call (ok_Lwhole T O) (hr.mono (by decide)) (by rfl) O.m_Lwhole O.F_Lwhole.kp O.b_Lwhole .nil pass0 (pa_cons (pv 2) pa_nil)))) (pw_or1 (pt_not (pt_chain op_le op_lt pe_int (pv 2) (pv 1)))))) (pss_one (ps_ret pe_bl)) pss_nil)))
  (pss_one (ps_ret (pe_cmpR (r := rEqD K) (op_eqD hr.units) (pe_lc (own := [("_law_kind", 2)]) (by rfl) sc_Lis_order.nd (pi_range1 (by rfl) O.z_range (pa_cons (pv 1) pa_nil)) (blkOk_by (own := [("_law_kind", 2)]) (N := ["_law_order_here", "_law_many", "_law_kind"]) (sc := defScope s_Lis_order) (scope := ({ kind := .function, names := [(".0", .local), ("_law_kind", .local), ("_law_order_here", .free)], isGenerator := false, isCoroutine := false } : Scope)) (by decide +kernel)) (fun _ _ _ _ _ => (pg_name (i := 2) sc_Lis_order.nd rfl (Or.inl rfl))) (fun _ _ _ _ _ => (pts_one (pt_cmpR (r := rIn K true) op_notIn_seq (pv 2) (pv 0) rfl))) (fun _ _ _ _ _ => (pv 2))) (pe_lst pa_nil) (nomark _)))))), ?_⟩
  walk_at "r"
  intro t1 ht1
  have n1 := Jv.same_new (u := .tup [.ty "list", .ty "tuple"]) ht1
  have hy1 := hy.same n1
  walk_at "r"
  cases er : Jv.seqD d with
  | none =>
    have e2 : orderD m d = false := by unfold orderD; rw [er]
    rw [e2] at k
    walk_at "r"
    exact k _ n1
  | some ds =>
  have fd := few ds er
  obtain ⟨xs, skw, alw⟩ := hy1.sk er
  have lxs := alw.len
  walk_at "r"
  refine skw.len ?_
  walk_at "r"
  refine Jv.r_ndecI (fun ne => ?_) (fun eq => ?_)
  · have e2 : orderD m d = false := orderD_no er fun ns hn h => by
      have := order_len_int h
      rw [hn, List.length_map] at lxs
      omega
    rw [e2] at k
    walk_at "r"
    exact k _ n1
  walk_at "r"
  refine Jv.for_sk (i := 0) rfl skw (fun j σ H2 => ∃ y2, σ = [some y, some (.int m), y2] ∧ Same (upd H t1 (.tup [.ty "list", .ty "tuple"])) H2 ∧ ∀ e ∈ ds.take j, ∃ i, e = .int i ∧ 0 ≤ i ∧ i < m)
    ⟨_, rfl, fun _ _ e => e, fun _ hm => (by simp at hm)⟩ (fun j σ' H' ⟨_, _, s, _⟩ => s) ?_ ?_
  · rintro j v σ H2 hv ⟨y2, rfl, s2, ok⟩
    obtain ⟨e, he, de⟩ := alw.at hv
    have hem := List.mem_of_getElem? he
    have sx := n1.trans s2
    have bad : (∀ i, e = .int i → ¬ (0 ≤ i ∧ i < m)) → orderD m d = false := fun n => orderD_no er fun ns hn h => by
      rw [hn] at hem
      obtain ⟨i, hi, rfl⟩ := List.mem_map.mp hem
      exact n i rfl ⟨(h.1 i hi).1, by have := (h.1 i hi).2; omega⟩
    walk_at "r"
    refine ⟨_, _, rfl, de.same s2, ?_⟩
    by_cases hi : ∃ i, e = .int i
    · obtain ⟨i, rfl⟩ := hi
      cases de
      walk_at "r"
      refine Jv.r_dec (fun i0 => ?_) (fun i0 => ?_)
      case refine_2 =>
        rw [bad fun i' e' h => by cases e'; omega] at k
        walk_at "r"
        exact k _ sx
      walk_at "r"
      refine Jv.r_ndec (fun i6 => ?_) (fun i6 => ?_)
      · rw [bad fun i' e' h => by cases e'; omega] at k
        walk_at "r"
        exact k _ sx
      walk_at "r"
      refine ⟨_, rfl, s2, fun e' hm' => ?_⟩
      rw [Jv.take_more he] at hm'
      rcases List.mem_append.mp hm' with hm' | hm'
      · exact ok e' hm'
      · rw [List.mem_singleton.mp hm']
        exact ⟨i, rfl, i0, by omega⟩
    · have e2 : Jv.intD e = false := by
        cases e with
        | int l => exact absurd ⟨l, rfl⟩ hi
        | _ => rfl
      rw [bad fun i' e' _ => hi ⟨i', e'⟩] at k
      rw [e2]
      walk_at "r"
      exact k _ sx
  · rintro σ H2 ⟨y2, rfl, s2, ok⟩
    rw [lxs, List.take_of_length_le (Nat.le_refl _)] at ok
    obtain ⟨ns, rfl, hk⟩ := ints_of ok
    obtain rfl := Jv.dv_intsV alw
    rw [List.length_map] at lxs eq fd
    have hln : (ns.length : Int) = m := by omega
    have hyS := skw.same s2
    walk_at "r"
    refine Jv.r_lc ?_
    walk_at "r"
    refine ⟨m, rfl, by omega, by omega, ?_⟩
    intro D hD
    refine lc_it (walk_range (lo := 0) (n := m.toNat)) (fun i H1 => Same H2 H1 ∧ H1 D = some (.lst (((rg0 i).filter fun n => !decide (n ∈ ns)).map V.int))) ⟨Jv.same_new hD, upd_same⟩ (fun _ _ _ _ => trivial) ?_ ?_
    · rintro i v H1 H3 hi ⟨s1, e1⟩ ⟨rfl, rfl⟩
      walk_at "r"
      obtain ⟨a, rfl, ha⟩ := hyS.same s1
      refine ⟨a, ns.map V.int, rfl, ha, rfl, flat_ints ns, ?_⟩
      rw [if_pos rfl, inV_ints]
      have more : ((rg0 (i + 1)).filter fun n => !decide (n ∈ ns)) = ((rg0 i).filter fun n => !decide (n ∈ ns)) ++ if (!decide ((0 + (i : Int)) ∈ ns)) = true then [0 + (i : Int)] else [] := by
        unfold rg0
        rw [List.range_succ, List.map_append, List.filter_append]
        congr 1
        show List.filter (fun n => !decide (n ∈ ns)) [0 + (i : Int)] = _
        generalize (0 + (i : Int)) = z
        by_cases c : z ∈ ns <;> simp [c]
      cases c : (!decide ((0 + (i : Int)) ∈ ns)) with
      | true =>
        rw [c, if_pos rfl] at more
        walk_at "r"
        refine ⟨_, e1, ?_, fun b o e => Jv.kpO (s1 b o e) (ne_of_none e hD), ?_⟩
        · rw [List.length_map]
          refine Jv.small_lt (Nat.lt_of_le_of_lt (List.length_filter_le _ _) ?_)
          unfold rg0
          rw [List.length_map, List.length_range]; omega
        · rw [upd_same, more, List.map_append]
          rfl
      | false =>
        rw [c, if_neg Bool.false_ne_true, List.append_nil] at more
        walk_at "r"
        refine ⟨s1, ?_⟩
        rw [more]; exact e1
    · rintro H1 ⟨s1, e1⟩
      walk_at "r"
      intro t2 ht2
      have n2 := Jv.same_new (u := .lst []) ht2
      walk_at "r"
      refine ⟨.list (((rg0 m.toNat).filter fun n => !decide (n ∈ ns)).map .int), .list ([].map .int), .lst (Jv.sqL_at (n2 _ _ e1)) (Jv.dv_ints _).dp, .lst (Jv.sqL_at upd_same) .nil, Jv.shapedL _, Jv.shapedL [], ?_⟩
      have ev : PyData.eqv (.list (((rg0 m.toNat).filter fun n => !decide (n ∈ ns)).map .int)) (.list (([] : List Int).map .int)) = orderD m d := by
        rw [orderD_of er]
        cases ec : ((rg0 m.toNat).filter fun n => !decide (n ∈ ns)) with
        | nil =>
          rw [decide_eq_true ((order_iff hk hln).mp ec)]
          rfl
        | cons z r =>
          rw [decide_eq_false fun h => by rw [(order_iff hk hln).mpr h] at ec; cases ec]
          rfl
      rw [ev]
      exact k _ (n1.trans (s2.trans (s1.trans n2)))
theorem ok_Lrenumbered (T : Tx) (O : Ok K mg T) : FnOk P w K mg base CX0 7 T.f_Lrenumbered T.d_Lrenumbered ["_law_costs", "_law_side", "_law_order_here"] (sp_Lrenumbered K T.C_Costs) := by
  refine O.F_Lrenumbered.ok sc_Lrenumbered (fun vs H Q E h => by obtain ⟨_, _, _, _, _, _, _, _, _, rfl, _⟩ := h; rfl) (fun cdv A outer s H vs Q E hr h => ?_)
  obtain ⟨a, sv, x, l, L, p, q, ds, d, rfl, hc, hw, hs, hx, f1, k⟩ := h
  refine ⟨_, (pss_one (Jv.ps_tryMix rfl rfl takes0 (Jv.Cls2.bare ⟨rfl, by decide, .inl O.m_BadSide⟩ (fun a oe cls d pn _ _ => (pss_one (ps_ret (pe_tup (pa_cons pe_str (pa_cons pe_non pa_nil)))))) (Jv.Cls2.named (i := 3) sc_Lrenumbered.nd rfl rfl ⟨rfl, by decide, .inl O.m_BadLot⟩ (fun a oe cls d pn hz hf => (pss_one (ps_ret (pe_tup (pa_cons pe_str (pa_cons (pe_xf O.x_BadLot.f O.n_BadLot_side hz hf (pv 3)) pa_nil)))))) Jv.Cls2.nil)) (fun W pn xe tk _ => (pss_one (ps_ret (show PE _ _ (tFld K _ _) from pe_fld (Jv.pe_methX (pv 0) O.o_Costs O.h_Costs_renumbered (ok_Costs_renumbered T O) (hr.mono (by decide)) O.b_Costs_renumbered .nil (fun σ => passAt tk σ) (pa_cons (pv 1) (pa_cons (pv 2) pa_nil))) rfl)))))), ?_⟩
  obtain ⟨dx, wv, tv, hca, _⟩ := id hc
  walk_at "r"
  refine Jv.r_fld ?_
  refine r_methC ?_
  walk_at "r"
  refine ⟨a, dx, _, rfl, hca, rfl, ?_⟩
  walk_at "r"
  refine ⟨a, sv, x, l, L, p, q, ds, d, rfl, hc, hw, hs, hx, f1, ?_⟩
  have good : ∀ r H1 W, Same H H1 → CAt K H1 T.C_Costs r l W p q → renD L p q ds d = W → ∃ b C dy fs v, V.ref r = .ref b ∧ H1 b = some (.ins C dy fs) ∧ Cls K C ∧ NoAttr K C "lines" ∧ fs.lookup ("lines" : Str) = some v ∧ Q v H1 := fun r H1 W s1 ga e => by
    obtain ⟨dx1, wv1, tv1, hr1, hW1, _⟩ := ga
    exact ⟨r, _, dx1, _, _, rfl, hr1, O.o_Costs, O.n_Costs_lines, rfl, k _ _ s1 (by rw [e]; exact hW1)⟩
  cases ew : Jv.wholeD ds (.int 0) (.int 1) with
  | false =>
    rw [renD_no ew] at k
    refine .inr (.inr (.inl ⟨rfl, fun H1 s1 => ?_⟩))
    refine ⟨true, O.e_BadSide.e, fun _ a ha => ?_, fun z => nomatch z⟩
    walk_at "r"
    exact fun r hr => k _ _ (s1.trans (Jv.same_new hr)) (.tup (Jv.sqT_at upd_same) (.cons (.str _) (.cons .non .nil)))
  | true =>
  obtain ⟨s0, rfl, b0, b1⟩ := Jv.wholeD_int ew
  have hs01 : s0 = 0 ∨ s0 = 1 := by omega
  rcases hs01 with rfl | rfl
  · cases eo : orderD p d with
    | true =>
      obtain ⟨ns, en, ho⟩ := orderD_yes eo
      refine .inl ⟨ns, rfl, en, ho, fun r H1 s1 ga => ?_⟩
      exact good r H1 _ s1 ga (by rw [renD_0, eo, if_pos rfl, intsOf_eq en])
    | false =>
      rw [renD_0, eo, if_neg (by decide)] at k
      refine .inr (.inr (.inr (.inl ⟨rfl, rfl, fun e H1 s1 hd => ?_⟩)))
      refine ⟨false, O.e_BadSide.no O.u_BadLot_BadSide, fun z => (nomatch z), fun _ => ?_⟩
      refine ⟨true, O.x_BadLot.e, fun _ a ha => ?_, fun z => nomatch z⟩
      walk_at "r"
      refine ⟨_, rfl, rfl, rfl, e, _, _, rfl, hd, rfl, ?_⟩
      walk_at "r"
      exact fun r hr => k _ _ (s1.trans (Jv.same_new hr)) (.tup (Jv.sqT_at upd_same) (.cons (.str _) (.cons (.int _) .nil)))
  · cases eo : orderD q d with
    | true =>
      obtain ⟨ns, en, ho⟩ := orderD_yes eo
      refine .inr (.inl ⟨ns, rfl, en, ho, fun r H1 s1 ga => ?_⟩)
      exact good r H1 _ s1 ga (by rw [renD_1, eo, if_pos rfl, intsOf_eq en])
    | false =>
      rw [renD_1, eo, if_neg (by decide)] at k
      refine .inr (.inr (.inr (.inr ⟨rfl, rfl, fun e H1 s1 hd => ?_⟩)))
      refine ⟨false, O.e_BadSide.no O.u_BadLot_BadSide, fun z => (nomatch z), fun _ => ?_⟩
      refine ⟨true, O.x_BadLot.e, fun _ a ha => ?_, fun z => nomatch z⟩
      walk_at "r"
      refine ⟨_, rfl, rfl, rfl, e, _, _, rfl, hd, rfl, ?_⟩
      walk_at "r"
      exact fun r hr => k _ _ (s1.trans (Jv.same_new hr)) (.tup (Jv.sqT_at upd_same) (.cons (.str _) (.cons (.int _) .nil)))
end
end K49

namespace K49
open PySem PySem.Spec PyProof.Rows L2
/-! ### costs renumbered: what is due -/
theorem whole_not01 {s : Int} (h : ¬ (s = 0 ∨ s = 1)) : Jv.wholeD (.int s) (.int 0) (.int 1) = false := by
  cases e : Jv.wholeD (.int s) (.int 0) (.int 1) with
  | false => rfl
  | true => obtain ⟨i, ei, a, b⟩ := Jv.wholeD_int e; cases ei; exact absurd (by omega) h
section
variable {P : Program} {w : World} {K : PySem.W.Frag} {mg : Str → Option Value} {base : Heap}
theorem ok_Lrenumbered_due (T : Tx) (O : Ok K mg T) : FnOk P w K mg base CX0 3 T.f_Lrenumbered_due T.d_Lrenumbered_due ["_law_lines", "_law_side", "_law_order_here"] (sp_Lrenumbered_due K) := by
  refine O.F_Lrenumbered_due.ok sc_Lrenumbered_due (fun vs H Q E h => by obtain ⟨_, _, _, _, _, _, _, _, _, rfl, _⟩ := h; rfl) (fun cdv A outer s H vs Q E hr h => ?_)
  obtain ⟨x, sv, y, l, L, p, q, ds, d, rfl, hw, hx, hs, hy, few, k⟩ := h
  refine ⟨_, (pss_cons (ps_if (PW.pt (pw_or (pt_not (pt_val (pe_call (ok_Lwhole T O) (hr.mono (by decide)) (by rfl) O.m_Lwhole O.F_Lwhole.kp O.b_Lwhole .nil pass0 (pa_cons (pv 1) pa_nil)))) (pw_or1 (pt_cmpR (r := rIn K true) op_notIn_seq (pv 1) (pe_tup (pa_cons pe_int (pa_cons pe_int pa_nil))) rfl)))) (pss_one (ps_ret (pe_tup (pa_cons pe_str (pa_cons pe_non pa_nil))))) pss_nil)
  (pss_cons (ps_if (pt_not (pt_val (pe_call (ok_Lis_order T O) (hr.mono (by decide)) (by rfl) O.m_Lis_order O.F_Lis_order.kp O.b_Lis_order .nil pass0 (pa_cons (pv 2) (pa_cons (pe_ifExp (pt_cmpR op_eq (pv 1) pe_int (nomark _)) (pe_callB (r := Jv.rLenK K) Jv.cr_len (by rfl) O.z_len (by decide +kernel) (pa_cons (pv 0) pa_nil)) (pe_callB (r := Jv.rLenK K) Jv.cr_len (by rfl) O.z_len (by decide +kernel) (pa_cons (pe_ix (r := rIx K) ix_seq (pv 0) pe_int (fun _ _ => rfl)) pa_nil))) pa_nil))))) (pss_one (ps_ret (pe_tup (pa_cons pe_str (pa_cons (pv 1) pa_nil))))) pss_nil)
  (pss_cons (ps_if (pt_cmpR op_eq (pv 1) pe_int (nomark _)) (pss_one (ps_ret (pe_call (ok_Ltuples T O) (hr.mono (by decide)) (by rfl) O.m_Ltuples O.F_Ltuples.kp O.b_Ltuples .nil pass0 (pa_cons (pe_lc (own := [("_law_kind", 5)]) (by rfl) sc_Lrenumbered_due.nd (Jv.piOr (show PI _ _ _ (iList K _) from pi_list (pv 2)) (show PI _ _ _ (iTup K _) from pi_tup (pv 2))) (blkOk_by (own := [("_law_kind", 5)]) (N := ["_law_lines", "_law_side", "_law_order_here", "_law_turned_here", "_law_line", "_law_kind"]) (sc := defScope s_Lrenumbered_due) (scope := ({ kind := .function, names := [(".0", .local), ("_law_kind", .local), ("_law_lines", .free)], isGenerator := false, isCoroutine := false } : Scope)) (by decide +kernel)) (fun _ _ _ _ _ => (pg_name (i := 5) sc_Lrenumbered_due.nd rfl (Or.inl rfl))) (fun _ _ _ _ _ => pts_nil) (fun _ _ _ _ _ => (pe_ix (r := rIx K) ix_seq (pv 0) (pv 5) (fun _ _ => rfl)))) pa_nil)))) pss_nil)
  (pss_cons (ps_set (i := 3) sc_Lrenumbered_due.nd rfl (Or.inl rfl) (pe_lst pa_nil))
  (pss_cons (ps_for PassesOwn.never rfl (Jv.piOr (show PI _ _ _ (iList K _) from pi_list (pv 0)) (show PI _ _ _ (iTup K _) from pi_tup (pv 0))) (pg_name (i := 4) sc_Lrenumbered_due.nd rfl (Or.inr rfl)) (pss_one (ps_expr (show PE _ _ (tBM K _ _ _ _) from pe_bm PySem.F.plainAttrs_list PySem.F.slot_list_append PySem.F.type_list_append mt_append (pv 3) (pa_cons (pe_lc (own := [("_law_kind", 5)]) (by rfl) sc_Lrenumbered_due.nd (Jv.piOr (show PI _ _ _ (iList K _) from pi_list (pv 2)) (show PI _ _ _ (iTup K _) from pi_tup (pv 2))) (blkOk_by (own := [("_law_kind", 5)]) (N := ["_law_lines", "_law_side", "_law_order_here", "_law_turned_here", "_law_line", "_law_kind"]) (sc := defScope s_Lrenumbered_due) (scope := ({ kind := .function, names := [(".0", .local), ("_law_kind", .local), ("_law_line", .free)], isGenerator := false, isCoroutine := false } : Scope)) (by decide +kernel)) (fun _ _ _ _ _ => (pg_name (i := 5) sc_Lrenumbered_due.nd rfl (Or.inl rfl))) (fun _ _ _ _ _ => pts_nil) (fun _ _ _ _ _ => (pe_ix (r := rIx K) ix_seq (pv 4) (pv 5) (fun _ _ => rfl)))) pa_nil)))))
  (pss_one (ps_ret (pe_call (ok_Ltuples T O) (hr.mono (by decide)) (by rfl) O.m_Ltuples O.F_Ltuples.kp O.b_Ltuples .nil pass0 (pa_cons (pv 3) pa_nil))))))))), ?_⟩
  have p6 := hw.p6
  have q6 := hw.q6
  have l6 := hw.l6
  have p0 := hw.p0
  walk_at "r"
  refine ⟨_, _, rfl, hs, ?_⟩
  by_cases hi : ∃ s, ds = .int s
  case neg =>
    have e2 : Jv.intD ds = false := by
      cases ds with
      | int l => exact absurd ⟨l, rfl⟩ hi
      | _ => rfl
    have e3 : Jv.wholeD ds (.int 0) (.int 1) = false := by
      cases ds with
      | int l => exact absurd ⟨l, rfl⟩ hi
      | _ => rfl
    rw [renD_no e3] at k
    rw [e2]
    walk_at "r"
    exact fun r hr => k _ _ (Jv.same_new hr) (.tup (Jv.sqT_at upd_same) (.cons (.str _) (.cons .non .nil)))
  obtain ⟨s0, rfl⟩ := hi
  cases hs
  walk_at "r"
  intro t1 ht1
  have n1 := Jv.same_new (u := .tup [.int 0, .int 1]) ht1
  walk_at "r"
  refine ⟨t1, ([0, 1] : List Int).map V.int, rfl, .inr (Jv.sqT_at upd_same), rfl, flat_ints _, ?_⟩
  rw [if_pos rfl, inV_ints]
  by_cases h01 : s0 = 0 ∨ s0 = 1
  case neg =>
    rw [decide_eq_false (by simpa using h01)]
    rw [renD_no (whole_not01 h01)] at k
    walk_at "r"
    exact fun r hr => k _ _ (n1.trans (Jv.same_new hr)) (.tup (Jv.sqT_at upd_same) (.cons (.str _) (.cons .non .nil)))
  rw [decide_eq_true (by simpa using h01)]
  have hx1 := hx.same n1
  have hy1 := hy.same n1
  obtain ⟨ws, skW, alW⟩ := hx1.sk rfl
  have lws := alW.len
  rw [List.length_map, hw.hp] at lws
  generalize upd H t1 (.tup [.int 0, .int 1]) = H1 at n1 hx1 hy1 skW alW ⊢
  rcases h01 with rfl | rfl
  · walk_at "r"
    refine skW.len ?_
    rw [lws]
    walk_at "r"
    refine ⟨y, d, _, rfl, hy1, few, ⟨by omega, by omega⟩, fun H2 s2 => ?_⟩
    cases eo : orderD p d with
    | false =>
      rw [renD_0, eo, if_neg (by decide)] at k
      walk_at "r"
      exact fun r hr => k _ _ (n1.trans (s2.trans (Jv.same_new hr))) (.tup (Jv.sqT_at upd_same) (.cons (.str _) (.cons (.int _) .nil)))
    | true =>
    obtain ⟨ns, en, ho⟩ := orderD_yes eo
    have lns := order_len_int ho
    rw [renD_0, eo, if_pos rfl, intsOf_eq en] at k
    obtain ⟨zs, skY, alY⟩ := (hy1.same s2).sk en
    obtain rfl := Jv.dv_intsV alY
    walk_at "r"
    refine Jv.lcS2 (K := K) (N := []) (j := 5) (i := 2) rfl skY .nil ((rowL L ns).map rowLL) (by rw [List.length_map, List.length_map]; unfold rowL; rw [List.length_map]) (by rw [List.length_map]; omega) (fun i v e D1 H6 hi hv he s6 hN1 hD1 PP hP => ?_) (fun D1 ys H6 s6 hD1 eD1 dv1 _ => ?_)
    · obtain ⟨z, hz, rfl⟩ := Jv.map_at hv
      have hzb := ho.1 z (List.mem_of_getElem? hz)
      have hL := hw.hp
      have hzL : z.toNat < L.length := by omega
      have ee : e = rowLL L[z.toNat] := by
        unfold rowL at he
        rw [List.map_map, List.getElem?_map, hz] at he
        have := (Option.some.inj he).symm
        rw [this]
        show rowLL ((L[z.toNat]?).getD []) = _
        rw [List.getElem?_eq_getElem hzL]; rfl
      subst ee
      obtain ⟨wv1, c1, c2⟩ := alW.of (i := z.toNat) (d := rowLL L[z.toNat]) (by rw [List.getElem?_map, List.getElem?_eq_getElem hzL]; rfl)
      walk_at "r"
      refine (skW.same (s2.trans s6)).ix (Jv.at_i (by omega) c1) ?_
      refine hP _ _ (Same.refl _) ?_
      have c3 : Jv.Dv K (Jv.hide [] H2) wv1 (rowLL L[z.toNat]) := by rw [Jv.hide_nil]; exact c2.same s2
      exact c3.same (Jv.hide_more s6 hD1)
    · walk_at "r"
      rw [Jv.hide_nil] at dv1
      refine ⟨_, _, rfl, .lst eD1 dv1, rows_FL hw ho, fun r H3 s3 dv => ?_⟩
      exact k _ _ (n1.trans (s2.trans (s6.trans s3))) dv
  · obtain ⟨r0, h00⟩ : ∃ r0, ws[0]? = some r0 := ⟨ws[0], List.getElem?_eq_getElem (by omega)⟩
    obtain ⟨d0, c0, dv0⟩ := alW.at h00
    obtain ⟨line0, hl0, rfl⟩ := mapAt c0
    obtain ⟨us0, sk0, al0⟩ := dv0.sk rfl
    have lu0 := al0.len
    rw [List.length_map, hw.hq line0 (List.mem_of_getElem? hl0)] at lu0
    walk_at "r"
    refine skW.ix (Jv.at_i (k := 0) (by decide) h00) ?_
    walk_at "r"
    refine sk0.len ?_
    rw [lu0]
    walk_at "r"
    refine ⟨y, d, _, rfl, hy1, few, ⟨by omega, by omega⟩, fun H2 s2 => ?_⟩
    cases eo : orderD q d with
    | false =>
      rw [renD_1, eo, if_neg (by decide)] at k
      walk_at "r"
      exact fun r hr => k _ _ (n1.trans (s2.trans (Jv.same_new hr))) (.tup (Jv.sqT_at upd_same) (.cons (.str _) (.cons (.int _) .nil)))
    | true =>
    obtain ⟨ns, en, ho⟩ := orderD_yes eo
    have lns := order_len_int ho
    rw [renD_1, eo, if_pos rfl, intsOf_eq en] at k
    obtain ⟨zs, skY, alY⟩ := (hy1.same s2).sk en
    obtain rfl := Jv.dv_intsV alY
    have n12 := n1.trans s2
    walk_at "r"
    intro D hD
    have s0 := Jv.same_new (u := .lst []) hD
    walk_at "r"
    refine Jv.for_sk0 (i := 0) (H0 := H2) rfl (skW.same s2) s0 (fun j σ H1 => ∃ y4 y5 xs, σ = [some x, some (.int 1), some y, some (.ref D), y4, y5] ∧ Same H2 H1 ∧ H1 D = some (.lst xs) ∧ DvAll' K D H1 xs ((colL L ns).take j) ∧ xs.length = j)
      ⟨_, _, [], rfl, s0, upd_same, .nil, rfl⟩ (fun j σ' H' ⟨_, _, _, _, s, _⟩ => s) ?_ ?_
    · rintro j v σ H3 hv ⟨y4, y5, xs, rfl, s3, eD, al, ln⟩
      have hj : j < ws.length := (List.getElem?_eq_some_iff.mp hv).1
      obtain ⟨dl, c1, c2⟩ := alW.at hv
      obtain ⟨line, c3, rfl⟩ := mapAt c1
      have hline := List.mem_of_getElem? c3
      have hlq := hw.hq line hline
      have s23 := s2.trans s3
      have c8 : Jv.Dv K (Jv.hide [] H2) v (rowLL line) := by rw [Jv.hide_nil]; exact c2.same s2
      obtain ⟨us, skU', alU⟩ := (c8.same (Jv.hide_more s3 hD)).sk rfl
      have skU := skU'.same Jv.hide_le
      have lus := alU.len
      rw [List.length_map] at lus
      walk_at "r"
      have hN : Jv.Held [D] H3 := fun b m => by rw [List.mem_singleton.mp m]; exact ⟨_, eD⟩
      refine Jv.lcS2 (K := K) (N := [D]) (j := 5) (i := 2) rfl (skY.same s3) hN ((ns.map fun w => (line[w.toNat]?).getD []).map fun ns => .list (ns.map .int)) (by simp) (by rw [List.length_map]; omega) (fun i2 u e2' D2 H7 hi2 hu he2 s7 hN2 hD2 PP2 hP2 => ?_) (fun D2 ys2 H7 s7 hD2 eD2 dv2 _ => ?_)
      · obtain ⟨z, hz, rfl⟩ := Jv.map_at hu
        have hzb := ho.1 z (List.mem_of_getElem? hz)
        have hzL : z.toNat < line.length := by omega
        have ee2 : e2' = .list ((line[z.toNat]).map .int) := by
          rw [List.map_map, List.getElem?_map, hz] at he2
          have := (Option.some.inj he2).symm
          rw [this]
          show PyData.list (((line[z.toNat]?).getD []).map .int) = _
          rw [List.getElem?_eq_getElem hzL]; rfl
        subst ee2
        obtain ⟨wv1, c4, c5⟩ := alU.of (i := z.toNat) (d := .list ((line[z.toNat]).map .int)) (by rw [List.getElem?_map, List.getElem?_eq_getElem hzL]; rfl)
        walk_at "r"
        refine (skU.same s7).ix (Jv.at_i (by omega) c4) ?_
        refine hP2 _ _ (Same.refl _) ?_
        exact c5.same (Jv.hide_more s7 hD2)
      · walk_at "r"
        refine Jv.r_app (s7 _ _ eD) (by omega) ?_
        have nD : D2 ≠ D := fun z => by rw [z, eD] at hD2; cases hD2
        refine ⟨_, _, xs ++ [.ref D2], rfl, ?_, upd_same, ?_, by rw [List.length_append, ln]; rfl⟩
        · intro c o hc
          rw [upd_ne (ne_of_none hc hD)]
          exact s7 _ _ (s3 _ _ hc)
        · unfold DvAll' at al ⊢
          rw [Jv.hide_upd]
          have c4 : (colL L ns)[j]? = some (ns.map fun w => (line[w.toNat]?).getD []) := by unfold colL; rw [List.getElem?_map, c3]; rfl
          rw [Jv.take_more c4, List.map_append]
          exact Jv.DvAll.snoc (.lst (Jv.hide_at (fun m => nD (List.mem_singleton.mp m)) eD2) dv2) (al.same (Jv.hide_same s7))
    · rintro σ H3 ⟨y4, y5, xs, rfl, s3, eD, al, ln⟩
      have al2 : Jv.DvAll K H3 xs ((colL L ns).map fun line => .list (line.map fun ns => .list (ns.map .int))) := by
        unfold DvAll' at al
        rw [List.take_of_length_le (by unfold colL; rw [List.length_map, hw.hp]; omega)] at al
        exact al.same Jv.hide_le
      walk_at "r"
      refine ⟨_, _, rfl, .lst eD al2, cols_FL hw ho, fun r H4 s4 dv => ?_⟩
      exact k _ _ (n12.trans (s3.trans s4)) dv
end
end K49

namespace K49
open PySem PySem.Spec PyProof.Rows L2
def sp_Lorder : Sp := fun vs H Q _ => ∃ h l m, vs = [.ref h, .int m] ∧ Jv.Hand H h l ∧ (1 ≤ m ∧ m ≤ 40) ∧ ∀ (r : Addr) (ns : List Int) (H' : Hp), ns.Perm (Jv.rgI m.toNat) → H r = none → H' r = some (.lst (ns.map V.int)) → Jv.Kp h H H' → Jv.Hand H' h l → Q (.ref r) H'
section
variable {P : Program} {w : World} {K : PySem.W.Frag} {mg : Str → Option Value} {base : Heap}
theorem ok_Lorder (T : Tx) (O : Ok K mg T) : FnOk P w K mg base CX0 3 T.f_Lorder T.d_Lorder ["_law_hand_here", "_law_many"] sp_Lorder := by
  refine O.F_Lorder.ok sc_Lorder (fun vs H Q E h => by obtain ⟨_, _, _, rfl, _⟩ := h; rfl) (fun cdv A outer s H vs Q E hr h => ?_)
  obtain ⟨h, l, m, rfl, hh, ⟨m0, m1⟩, k⟩ := h
  refine ⟨_, (pss_cons (ps_set (i := 2) sc_Lorder.nd rfl (Or.inl rfl) (pe_listRg rfl (by rfl) O.z_list (prg_1 (by rfl) O.z_range (pv 1))))
  (pss_cons (ps_set (i := 3) sc_Lorder.nd rfl (Or.inl rfl) (pe_lst pa_nil))
  (pss_cons (ps_for PassesOwn.never rfl (pi_range1 (by rfl) O.z_range (pa_cons (pv 1) pa_nil)) (pg_name (i := 4) sc_Lorder.nd rfl (Or.inl rfl)) (pss_one (ps_expr (show PE _ _ (tBM K _ _ _ _) from pe_bm PySem.F.plainAttrs_list PySem.F.slot_list_append PySem.F.type_list_append mt_append (pv 3) (pa_cons (show PE _ _ (tBM K _ _ _ _) from pe_bm PySem.F.plainAttrs_list PySem.F.slot_list_pop PySem.F.type_list_pop mt_popAt (pv 2) (pa_cons (pe_call (ok_Ldraw T O) (hr.mono (by decide)) (by rfl) O.m_Ldraw O.F_Ldraw.kp O.b_Ldraw .nil pass0 (pa_cons (pv 0) (pa_cons (pe_callB (r := Jv.rLenK K) Jv.cr_len (by rfl) O.z_len (by decide +kernel) (pa_cons (pv 2) pa_nil)) pa_nil))) pa_nil)) pa_nil)))))
  (pss_one (ps_ret (pv 3)))))), ?_⟩
  walk_at "r"
  refine ⟨_, rfl, m, rfl, RgOk.of_le (by omega) (by omega) (by omega) (by omega), fun a ha => ?_⟩
  walk_at "r"
  rw [Jv.rgV0]
  intro b hb
  walk_at "r"
  refine ⟨m, rfl, by omega, by omega, ?_⟩
  have hbH : H b = none := (Jv.same_new ha).free hb
  obtain ⟨ho, hho⟩ := hh.at
  have nah : a ≠ h := (ne_of_none hho ha).symm
  have nbh : b ≠ h := (ne_of_none hho hbH).symm
  have nba : b ≠ a := fun e => by rw [e, upd_same] at hb; cases hb
  have sab := (Jv.same_new (u := .lst ((Jv.rgI m.toNat).map V.int)) ha).trans (Jv.same_new (u := .lst []) hb)
  refine for_range (lo := 0) (n := m.toNat) (fun i σ H1 => ∃ y4 ns ms, σ = [some (.ref h), some (.int m), some (.ref a), some (.ref b), y4] ∧ Jv.Kp h H H1 ∧ Jv.Hand H1 h l ∧ H1 a = some (.lst (ms.map V.int)) ∧ H1 b = some (.lst (ns.map V.int)) ∧ (ns ++ ms).Perm (Jv.rgI m.toNat) ∧ ms.length + i = m.toNat ∧ ns.length = i) ⟨_, [], Jv.rgI m.toNat, rfl, Jv.Kp.same sab, hh.same sab, Jv.kp upd_same hb, upd_same, .refl _, by simp [Jv.rgI], rfl⟩ ?_ ?_
  · rintro i σ H1 hi ⟨y4, ns, ms, rfl, kp, h1, ea, eb, pm, le, ln⟩
    walk_at "r"
    rw [List.length_map]
    refine ⟨h, l, _, rfl, h1, ⟨by omega, Jv.log_small (by omega) (by omega)⟩, fun z H2 z0 z1 k2 h2 => ?_⟩
    have hz : z.toNat < ms.length := by omega
    have ea2 := k2 a _ nah ea
    have eb2 := k2 b _ nbh eb
    walk_at "r"
    refine Jv.r_popAt ea2 z0 (by omega) (Jv.map_get hz) ?_
    walk_at "r"
    refine Jv.r_app (by rw [upd_ne nba]; exact eb2) (by rw [List.length_map]; omega) ?_
    refine ⟨_, ns ++ [ms[z.toNat]], ms.eraseIdx z.toNat, rfl, ?_, ?_, ?_, ?_, (Jv.pop_perm (List.getElem?_eq_getElem hz)).trans pm, ?_, by rw [List.length_append, ln]; rfl⟩
    · intro c o nc hc
      have e2 := k2 c o nc (kp c o nc hc)
      have nca := ne_of_none hc ha
      have ncb := ne_of_none hc hbH
      rw [upd_ne ncb, upd_ne nca]; exact e2
    · obtain ⟨ns2, k3, c3, t3, hA⟩ := h2
      have la : l ≠ a := fun e => by
        have q := hA.hl
        rw [e, ea2] at q
        obtain ⟨ns0, k0, c0, t0, hA0⟩ := hh
        exact absurd hA0.hl (by rw [e, ha]; simp)
      have lb : l ≠ b := fun e => by
        obtain ⟨ns0, k0, c0, t0, hA0⟩ := hh
        exact absurd hA0.hl (by rw [e, hbH]; simp)
      exact ⟨ns2, k3, c3, t3, by rw [upd_ne nbh.symm, upd_ne nah.symm]; exact hA.hp, by rw [upd_ne lb, upd_ne la]; exact hA.hl, hA.nn, hA.few, hA.bd⟩
    · rw [upd_ne nba.symm, upd_same, Jv.erase_map]
    · rw [upd_same, List.map_append]; rfl
    · rw [List.length_eraseIdx_of_lt hz]; omega
  · rintro σ H1 ⟨y4, ns, ms, rfl, kp, h1, ea, eb, pm, le, ln⟩
    have em : ms = [] := List.eq_nil_of_length_eq_zero (by omega)
    subst em
    rw [List.append_nil] at pm
    walk_at "r"
    exact k b ns H1 pm hbH eb kp h1
end
end K49

namespace K49
open PySem PySem.Spec PyProof.Rows L2
/-! ### costs turned: cut, added to, renumbered, as the law compares them -/
theorem canAll_map {α : Type} {f : α → PyData} (h : ∀ x, (f x).canLay0 = true) : ∀ l : List α, PyData.canLayAll0 (l.map f) = true
  | [] => by simp [PyData.canLayAll0]
  | a :: r => by simp [PyData.canLayAll0, h a, canAll_map h r]
theorem depAll_map {α : Type} {f : α → PyData} {n : Nat} (h : ∀ x, (f x).depth ≤ n) : ∀ l : List α, PyData.depthAll (l.map f) ≤ n
  | [] => by simp [PyData.depthAll]
  | a :: r => by
    have h1 := h a
    have h2 := depAll_map h r
    simp [PyData.depthAll]; omega
theorem can_lin (L : List (List (List Int))) : (linT L).canLay0 = true := by
  unfold linT
  simp only [PyData.canLay0]
  refine canAll_map (fun line => ?_) L
  unfold rowT
  simp only [PyData.canLay0]
  exact canAll_map (fun ns => by simp only [PyData.canLay0]; exact Jv.canAll_ints ns) line
theorem dep_lin (L : List (List (List Int))) : (linT L).depth ≤ 3 := by
  unfold linT
  simp only [PyData.depth]
  have : PyData.depthAll (L.map rowT) ≤ 2 := by
    refine depAll_map (fun line => ?_) L
    unfold rowT
    simp only [PyData.depth]
    have : PyData.depthAll (line.map fun ns => PyData.tuple (ns.map .int)) ≤ 1 := depAll_map (fun ns => by simp only [PyData.depth, Jv.depAll_ints]; omega) line
    omega
  omega
theorem shaped_of {d : PyData} (h : d.canLay0 = true) (h2 : d.depth ≤ 4) : SeqAt.shaped d = true := by
  simp [SeqAt.shaped, h]; omega
theorem shaped_lin (L : List (List (List Int))) : SeqAt.shaped (linT L) = true := shaped_of (can_lin L) (by have := dep_lin L; omega)
theorem shaped_res (m : Int) (L : List (List (List Int))) : SeqAt.shaped (.tuple [.int m, linT L]) = true := by
  refine shaped_of (by simp [PyData.canLay0, PyData.canLayAll0, can_lin]) ?_
  have := dep_lin L
  simp [PyData.depth, PyData.depthAll]; omega
theorem shaped_str (x : String) (h : PyData.canLay0 (.str x) = true) : SeqAt.shaped (.str x) = true := shaped_of h (by simp [PyData.depth])
theorem shaped_addR (l : Int) (L : List (List (List Int))) (d : PyData) : SeqAt.shaped (addR l L d) = true := by
  cases d with
  | int b =>
    show SeqAt.shaped (if _ then (if _ then _ else _) else _) = true
    split
    · split
      · decide +kernel
      · exact shaped_res _ _
    · decide +kernel
  | _ => (show SeqAt.shaped (.str "amount") = true); decide +kernel
theorem shaped_lot (s : Int) : SeqAt.shaped (lotR s) = true := by
  unfold lotR
  have h : PyData.canLay0 (.str "lot") = true := by decide +kernel
  refine shaped_of (by simp [PyData.canLay0, PyData.canLayAll0] at h ⊢; exact h) (by simp [PyData.depth, PyData.depthAll])
theorem shaped_renD (L : List (List (List Int))) (p q : Nat) (ds d : PyData) : SeqAt.shaped (renD L p q ds d) = true := by
  have hs : SeqAt.shaped sideR = true := by unfold sideR; decide +kernel
  unfold renD
  split
  · exact hs
  · split
    · split
      · split
        · exact shaped_lin _
        · exact shaped_lot _
      · split
        · exact shaped_lin _
        · exact shaped_lot _
    · exact hs
theorem eqv_self {d : PyData} (h : SeqAt.shaped d = true) : PyData.eqv d d = true := SeqAt.eqv_refl d (SeqAt.canLay_of_shaped h)
theorem ne_self {K : PySem.W.Frag} {H : Hp} {Q : VK} {x y : V} {d : PyData} (hx : Jv.Dv K H x d) (hy : Jv.Dv K H y d) (h : SeqAt.shaped d = true) (q : Q (.bl false) H) : rNeD K x y H Q :=
  ⟨d, d, hx.dp, hy.dp, h, h, by rw [eqv_self h]; exact q⟩
theorem eq_self {K : PySem.W.Frag} {H : Hp} {Q : VK} {x y : V} {d : PyData} (hx : Jv.Dv K H x d) (hy : Jv.Dv K H y d) (h : SeqAt.shaped d = true) (q : Q (.bl true) H) : rEqD K x y H Q :=
  ⟨d, d, hx.dp, hy.dp, h, h, by rw [eqv_self h]; exact q⟩
/-- one of a list's elements -/
theorem pickL {K : PySem.W.Frag} {H : Hp} {Q : VK} {t : Addr} {xs : List V} {ds : List PyData} {z : Int} (e : H t = some (.lst xs)) (al : Jv.DvAll K H xs ds) (z0 : 0 ≤ z) (z1 : z < xs.length) (k : ∀ v d, d ∈ ds → Jv.Dv K H v d → Q v H) : rIxL K (.ref t) (.int z) H Q := by
  have hz : z.toNat < xs.length := by omega
  obtain ⟨d, hd, dv⟩ := al.at (List.getElem?_eq_getElem hz)
  exact Jv.r_ixL (Jv.sqL_at e) (Jv.at_i z0 (List.getElem?_eq_getElem hz)) (k _ d (List.mem_of_getElem? hd) dv)
theorem pickS {K : PySem.W.Frag} {H : Hp} {Q : VK} {t : Addr} {xs : List V} {ds : List PyData} {z : Int} (e : H t = some (.lst xs)) (al : Jv.DvAll K H xs ds) (z0 : 0 ≤ z) (z1 : z < xs.length) (k : ∀ v d, d ∈ ds → Jv.Dv K H v d → Q v H) : rIx K (.ref t) (.int z) H Q := by
  have hz : z.toNat < xs.length := by omega
  obtain ⟨d, hd, dv⟩ := al.at (List.getElem?_eq_getElem hz)
  exact Jv.Sk.ix (xs := xs) ⟨t, rfl, .inl (Jv.sqL_at e)⟩ (Jv.at_i z0 (List.getElem?_eq_getElem hz)) (k _ d (List.mem_of_getElem? hd) dv)
theorem whole_hi {i l : Int} (h : ¬ (0 ≤ i ∧ i ≤ l)) : Jv.wholeD (.int i) (.int 0) (.int l) = false := by
  cases e : Jv.wholeD (.int i) (.int 0) (.int l) with
  | false => rfl
  | true => obtain ⟨j, ej, a, b⟩ := Jv.wholeD_int e; cases ej; exact absurd ⟨a, b⟩ h
def flatD : PyData → Bool
  | .none => true
  | .bool _ => true
  | .int _ => true
  | _ => false
theorem shaped_flat {d : PyData} (h : flatD d = true) : SeqAt.shaped d = true := by
  cases d with
  | list _ => cases h
  | tuple _ => cases h
  | dict _ => cases h
  | str _ => cases h
  | _ => exact shaped_of (by simp [PyData.canLay0]) (by simp [PyData.depth])
theorem flat_dv {K : PySem.W.Frag} {H H' : Hp} {v : V} {d : PyData} (h : flatD d = true) (dv : Jv.Dv K H v d) : Jv.Dv K H' v d := by
  cases dv with
  | non => exact .non
  | bl b => exact .bl b
  | int i => exact .int i
  | str _ => cases h
  | lst _ _ => cases h
  | tup _ _ => cases h
def sp_Lturned (K : PySem.W.Frag) (C : Addr) : Sp := fun vs H Q _ => ∃ h hl a x l L, ∃ p q : Nat, vs = [.ref h, .ref a, .int l, x] ∧ Jv.Hand H h hl ∧ CAt K (Jv.hide [h] H) C a l (linT L) p q ∧ Jv.Dv K (Jv.hide [h] H) x (linLL L) ∧ Gc l L p q ∧
  ∀ H', Jv.Kp h H H' → Jv.Hand H' h hl → Q (.bl true) H'
section
variable {P : Program} {w : World} {K : PySem.W.Frag} {mg : Str → Option Value} {base : Heap}
theorem ok_Lturned (T : Tx) (O : Ok K mg T) : FnOk P w K mg base CX0 8 T.f_Lturned T.d_Lturned ["_law_hand_here", "_law_costs", "_law_ladder", "_law_lines"] (sp_Lturned K T.C_Costs) := by
  refine O.F_Lturned.ok sc_Lturned (fun vs H Q E h => by obtain ⟨_, _, _, _, _, _, _, _, rfl, _⟩ := h; rfl) (fun cdv A outer s H vs Q E hr h => ?_)
  obtain ⟨h, hl, a, x, l, L, p, q, rfl, hh, hc, hx, hw, k⟩ := h
  refine ⟨_, (pss_cons (ps_for PassesOwn.never rfl (pi_range1 (by rfl) O.z_range (pa_cons pe_int pa_nil)) (pg_name (i := 4) sc_Lturned.nd rfl (Or.inl rfl)) (pss_cons (ps_set (i := 5) sc_Lturned.nd rfl (Or.inr rfl) (pe_call (ok_Ldraw T O) (hr.mono (by decide)) (by rfl) O.m_Ldraw O.F_Ldraw.kp O.b_Ldraw .nil pass0 (pa_cons (pv 0) (pa_cons (pe_op op_add (pv 2) pe_int) pa_nil))))
  (pss_cons (ps_set (i := 6) sc_Lturned.nd rfl (Or.inl rfl) (pe_tup (pa_cons (pv 5) (pa_cons (pe_call (ok_Ltuples T O) (hr.mono (by decide)) (by rfl) O.m_Ltuples O.F_Ltuples.kp O.b_Ltuples .nil pass0 (pa_cons (pe_lc (own := [("_law_line", 13)]) (by rfl) sc_Lturned.nd (show PI _ _ _ (iList K _) from pi_list (pv 3)) (blkOk_by (own := [("_law_line", 13)]) (N := ["_law_hand_here", "_law_costs", "_law_ladder", "_law_lines", "_law_turn", "_law_lower", "_law_due_here", "_law_odd", "_law_amount", "_law_drawn_here", "_law_side", "_law_order_here", "_law_asked", "_law_line", "_law_entry"]) (sc := defScope s_Lturned) (scope := ({ kind := .function, names := [(".0", .local), ("_law_line", .local), ("_law_lower", .free)], isGenerator := false, isCoroutine := false } : Scope)) (by decide +kernel)) (fun _ _ _ _ _ => (pg_name (i := 13) sc_Lturned.nd rfl (Or.inl rfl))) (fun _ _ _ _ _ => pts_nil) (fun _ _ _ _ _ => (pe_lc (own := [("_law_entry", 14)]) (by rfl) sc_Lturned.nd (Jv.piOr (show PI _ _ _ (iList K _) from pi_list (pv 13)) (show PI _ _ _ (iTup K _) from pi_tup (pv 13))) (blkOk_by (own := [("_law_entry", 14)]) (N := ["_law_hand_here", "_law_costs", "_law_ladder", "_law_lines", "_law_turn", "_law_lower", "_law_due_here", "_law_odd", "_law_amount", "_law_drawn_here", "_law_side", "_law_order_here", "_law_asked", "_law_line", "_law_entry"]) (sc := ({ kind := .function, names := [(".0", .local), ("_law_line", .local), ("_law_lower", .cell)], isGenerator := false, isCoroutine := false } : Scope)) (scope := ({ kind := .function, names := [(".0", .local), ("_law_entry", .local), ("_law_lower", .free)], isGenerator := false, isCoroutine := false } : Scope)) (by decide +kernel)) (fun _ _ _ _ _ => (pg_name (i := 14) sc_Lturned.nd rfl (Or.inl rfl))) (fun _ _ _ _ _ => pts_nil) (fun _ _ _ _ _ => (pe_slice (r := rSlL K) sl_list (pv 14) po_none (po_some (pe_op op_add (pv 5) pe_int))))))) pa_nil)) pa_nil))))
  (pss_cons (ps_if (pt_cmpR (r := rNeD K) (op_neD hr.units) (pe_call (ok_Lcut T O) (hr.mono (by decide)) (by rfl) O.m_Lcut O.F_Lcut.kp O.b_Lcut .nil pass0 (pa_cons (pv 1) (pa_cons (pv 5) pa_nil))) (pv 6) (nomark _)) (pss_one (ps_ret pe_bl)) pss_nil)
  (C8.pss_cut (ps_set (i := 7) sc_Lturned.nd rfl (Or.inl rfl) (pe_ix (r := rIxL K) ix_list (pe_lst (pa_cons (pe_un un_neg pe_int) (pa_cons (pe_op op_add (pv 2) pe_int) (pa_cons pe_bl (pa_cons pe_non (pa_cons (pe_op op_pow pe_int pe_int) pa_nil)))))) (pe_call (ok_Ldraw T O) (hr.mono (by decide)) (by rfl) O.m_Ldraw O.F_Ldraw.kp O.b_Ldraw .nil pass0 (pa_cons (pv 0) (pa_cons pe_int pa_nil))) (fun _ _ => rfl)))
  (pss_cons (ps_if (pt_cmpR (r := rNeD K) (op_neD hr.units) (pe_call (ok_Lcut T O) (hr.mono (by decide)) (by rfl) O.m_Lcut O.F_Lcut.kp O.b_Lcut .nil pass0 (pa_cons (pv 1) (pa_cons (pv 7) pa_nil))) pe_str (nomark _)) (pss_one (ps_ret pe_bl)) pss_nil)
  (pss_cons (ps_set (i := 8) sc_Lturned.nd rfl (Or.inl rfl) (pe_lst (pa_cons pe_int (pa_cons pe_int (pa_cons (pe_un un_neg pe_int) (pa_cons (pe_op op_pow pe_int pe_int) (pa_cons (pe_un un_neg (pe_op op_pow pe_int pe_int)) (pa_cons (pe_op op_add (pe_op op_pow pe_int pe_int) pe_int) (pa_cons pe_non (pa_cons pe_bl (pa_cons (pe_call (ok_Ldraw T O) (hr.mono (by decide)) (by rfl) O.m_Ldraw O.F_Ldraw.kp O.b_Ldraw .nil pass0 (pa_cons (pv 0) (pa_cons (pe_op op_pow pe_int pe_int) pa_nil))) (pa_cons (pe_un un_neg (pe_call (ok_Ldraw T O) (hr.mono (by decide)) (by rfl) O.m_Ldraw O.F_Ldraw.kp O.b_Ldraw .nil pass0 (pa_cons (pv 0) (pa_cons (pe_op op_pow pe_int pe_int) pa_nil)))) pa_nil))))))))))))
  (C8.pss_cut (ps_set (i := 9) sc_Lturned.nd rfl (Or.inl rfl) (pe_ix (r := rIx K) ix_seq (pv 8) (pe_call (ok_Ldraw T O) (hr.mono (by decide)) (by rfl) O.m_Ldraw O.F_Ldraw.kp O.b_Ldraw .nil pass0 (pa_cons (pv 0) (pa_cons pe_int pa_nil))) (fun _ _ => rfl)))
  (pss_cons (ps_if (pt_cmpR (r := rNeD K) (op_neD hr.units) (pe_call (ok_Ladded T O) (hr.mono (by decide)) (by rfl) O.m_Ladded O.F_Ladded.kp O.b_Ladded .nil pass0 (pa_cons (pv 1) (pa_cons (pv 9) pa_nil))) (pe_call (ok_Ladded_due T O) (hr.mono (by decide)) (by rfl) O.m_Ladded_due O.F_Ladded_due.kp O.b_Ladded_due .nil pass0 (pa_cons (pv 2) (pa_cons (pv 3) (pa_cons (pv 9) pa_nil)))) (nomark _)) (pss_one (ps_ret pe_bl)) pss_nil)
  (C8.pss_cut (ps_set (i := 10) sc_Lturned.nd rfl (Or.inl rfl) (pe_ix (r := rIxL K) ix_list (pe_lst (pa_cons pe_int (pa_cons pe_int (pa_cons pe_int (pa_cons pe_int (pa_cons pe_int (pa_cons pe_bl (pa_cons pe_non (pa_cons (pe_un un_neg pe_int) pa_nil))))))))) (pe_call (ok_Ldraw T O) (hr.mono (by decide)) (by rfl) O.m_Ldraw O.F_Ldraw.kp O.b_Ldraw .nil pass0 (pa_cons (pv 0) (pa_cons pe_int pa_nil))) (fun _ _ => rfl)))
  (C8.pss_cut (ps_set (i := 11) sc_Lturned.nd rfl (Or.inl rfl) (pe_call (ok_Lorder T O) (hr.mono (by decide)) (by rfl) O.m_Lorder O.F_Lorder.kp O.b_Lorder .nil pass0 (pa_cons (pv 0) (pa_cons (pe_ifExp (pt_cmpR (r := rEqD K) (op_eqD hr.units) (pv 10) pe_int (nomark _)) (pe_callB (r := Jv.rLenK K) Jv.cr_len (by rfl) O.z_len (by decide +kernel) (pa_cons (pe_ix (r := rIxL K) ix_list (pv 3) pe_int (fun _ _ => rfl)) pa_nil)) (pe_callB (r := Jv.rLenK K) Jv.cr_len (by rfl) O.z_len (by decide +kernel) (pa_cons (pv 3) pa_nil))) pa_nil))))
  (pss_one (ps_for PassesOwn.never rfl (show PI _ _ _ (iList K _) from pi_list (pe_lst (pa_cons (pv 11) (pa_cons (pe_callTy (r := Jv.rTupOf K) call_tuple_of (by rfl) O.z_tuple (by decide +kernel) (pa_cons (pv 11) pa_nil)) (pa_cons (pe_op op_cat (pv 11) (pe_lst (pa_cons pe_int pa_nil))) (pa_cons (pe_slice (r := rSlL K) sl_list (pv 11) (po_some pe_int) po_none) (pa_cons (pe_op op_rep (pe_lst (pa_cons (pe_ix (r := rIxL K) ix_list (pv 11) pe_int (fun _ _ => rfl)) pa_nil)) (pe_callB (r := Jv.rLenK K) Jv.cr_len (by rfl) O.z_len (by decide +kernel) (pa_cons (pv 11) pa_nil))) (pa_cons pe_non pa_nil)))))))) (pg_name (i := 12) sc_Lturned.nd rfl (Or.inl rfl)) (pss_one (ps_if (pt_cmpR (r := rNeD K) (op_neD hr.units) (pe_call (ok_Lrenumbered T O) (hr.mono (by decide)) (by rfl) O.m_Lrenumbered O.F_Lrenumbered.kp O.b_Lrenumbered .nil pass0 (pa_cons (pv 1) (pa_cons (pv 10) (pa_cons (pv 12) pa_nil)))) (pe_call (ok_Lrenumbered_due T O) (hr.mono (by decide)) (by rfl) O.m_Lrenumbered_due O.F_Lrenumbered_due.kp O.b_Lrenumbered_due .nil pass0 (pa_cons (pv 3) (pa_cons (pv 10) (pa_cons (pv 12) pa_nil)))) (nomark _)) (pss_one (ps_ret pe_bl)) pss_nil)))))))))))))))
  (pss_one (ps_ret (pe_and (pe_cmpR (r := rEqD K) (op_eqD hr.units) (show PE _ _ (tFld K _ _) from pe_fld (pv 1) rfl) (pv 2) (nomark _)) (pe_one (pe_cmpR (r := rEqD K) (op_eqD hr.units) (show PE _ _ (tFld K _ _) from pe_fld (pv 1) rfl) (pe_call (ok_Ltuples T O) (hr.mono (by decide)) (by rfl) O.m_Ltuples O.F_Ltuples.kp O.b_Ltuples .nil pass0 (pa_cons (pv 3) pa_nil)) (nomark _))))))), ?_⟩
  obtain ⟨X, rfl⟩ : ∃ X, x = .ref X := by cases hx; exact ⟨_, rfl⟩
  have p6 := hw.p6
  have q6 := hw.q6
  have p0 := hw.p0
  have q0 := hw.q0
  have l6 := hw.l6
  have l0 := hw.l0
  walk_at "r"
  refine ⟨3, rfl, by decide, by decide, ?_⟩
  refine for_range (lo := 0) (n := 3) (fun i σ H1 => ∃ y4 y5 y6 y7 y8 y9 y10 y11 y12 y13 y14, σ = [some (.ref h), some (.ref a), some (.int l), some (.ref X), y4, y5, y6, y7, y8, y9, y10, y11, y12, y13, y14] ∧ Jv.Kp h H H1 ∧ Jv.Hand H1 h hl) ⟨_, _, _, _, _, _, _, _, _, _, _, rfl, Jv.Kp.refl, hh⟩ ?_ ?_
  · rintro i σ H1 hi ⟨y4, y5, y6, y7, y8, y9, y10, y11, y12, y13, y14, rfl, kp1, hh1⟩
    walk_at "r"
    refine ⟨h, hl, l + 1, rfl, hh1, ⟨by omega, Jv.log_small (by omega) (by omega)⟩, fun lo H2 b0 b1 kp2 hh2 => ?_⟩
    have kp02 := kp1.trans kp2
    have hx2 : Jv.Dv K H2 (.ref X) (linLL L) := (hx.same kp02.hide).same Jv.hide_le
    have hc2 : CAt K H2 T.C_Costs a l (linT L) p q := (hc.same kp02.hide).same Jv.hide_le
    have wc := hw.cut b0 (by omega)
    walk_at "r"
    obtain ⟨xs, eX, alX⟩ : ∃ xs, H2 X = some (.lst xs) ∧ Jv.DvAll K H2 xs (L.map rowLL) := by
      cases hx2 with
      | lst e q => exact ⟨_, e, q⟩
    have lxs := alX.len
    rw [List.length_map, hw.hp] at lxs
    refine Jv.lcL2 (K := K) (N := []) (j := 13) (i := 3) rfl (Jv.sqL_at eX) .nil ((cutC (lo + 1).toNat L).map rowLL) (by unfold cutC; rw [List.length_map, List.length_map, hw.hp]; omega) (by omega)
      (fun i v e' D1 H5 hi hv he s5 hN1 hD1 PP hP => ?_) (fun D1 ys H6 s6 hD1 eD1 dv1 _ => ?_)
    · obtain ⟨dl, c1, c2⟩ := alX.at hv
      obtain ⟨line, c3, rfl⟩ := mapAt c1
      have hline := List.mem_of_getElem? c3
      have hlq := hw.hq line hline
      have ee : e' = rowLL (line.map fun ns => ns.take (lo + 1).toNat) := by
        unfold cutC at he
        rw [List.map_map, List.getElem?_map, c3] at he
        exact (Option.some.inj he).symm
      subst ee
      have c2h : Jv.Dv K (Jv.hide [] H2) v (rowLL line) := by rw [Jv.hide_nil]; exact c2
      obtain ⟨us, skU, alU⟩ := (c2h.same (Jv.hide_more s5 hD1)).sk rfl
      have lus := alU.len
      rw [List.length_map] at lus
      walk_at "r"
      refine Jv.lcS2 (K := K) (N := [D1]) (j := 14) (i := 13) rfl (skU.same Jv.hide_le) hN1 ((line.map fun ns => ns.take (lo + 1).toNat).map fun ns => .list (ns.map .int)) (by rw [List.length_map, List.length_map]; omega) (by omega) (fun i2 u e2' D2 H7 hi2 hu he2 s7 hN2 hD2 PP2 hP2 => ?_) (fun D2 ys2 H7 s7 hD2 eD2 dv2 _ => ?_)
      · obtain ⟨dn, g1, g2⟩ := alU.at hu
        obtain ⟨ns, g3, rfl⟩ := mapAt g1
        have ee2 : e2' = .list ((ns.take (lo + 1).toNat).map .int) := by
          rw [List.map_map, List.getElem?_map, g3] at he2
          exact (Option.some.inj he2).symm
        subst ee2
        have g4 := g2.same (Jv.hide_more s7 hD2)
        cases g4 with
        | lst hU qU =>
        obtain rfl := Jv.dv_intsV qU
        walk_at "r"
        unfold tSl tPart tNoPart
        walk_at "r"
        refine ⟨_, rfl, ?_⟩
        refine ⟨_, _, rfl, Jv.sqL_at (Jv.hide_some hU).2, fun p1 h1 => ?_⟩
        rw [cut_take (by omega), ← List.map_take]
        exact hP2 _ _ (Jv.same_new h1) (.lst (Jv.hide_at (hN2.new h1) upd_same) (Jv.dv_ints _))
      · exact hP _ _ s7 (.lst (Jv.hide_at (by
          intro m
          obtain ⟨o, ho⟩ := hN1 D2 m
          rw [hD2] at ho; cases ho) eD2) dv2)
    rw [Jv.hide_nil] at dv1
    walk_at "r"
    refine ⟨_, _, rfl, .lst eD1 dv1, wc.fl, fun r H3 s3 dv => ?_⟩
    walk_at "r"
    intro t ht
    have n1 := Jv.same_new (u := .tup [.int lo, r]) ht
    have s23 := s6.trans (s3.trans n1)
    have dvD : Jv.Dv K (upd H3 t (.tup [.int lo, r])) (.ref t) (.tuple [.int lo, linT (cutC (lo + 1).toNat L)]) := .tup (Jv.sqT_at upd_same) (.cons (.int _) (.cons (dv.same n1) .nil))
    walk_at "r"
    refine ⟨a, .int lo, .int lo, l, L, p, q, rfl, hc2.same s23, hw, .int _, .inl ⟨lo, rfl, b0, by omega, fun r2 H4 s4 dv4 => ?_⟩⟩
    walk_at "r"
    refine ne_self dv4 (dvD.same s4) (shaped_res _ _) ?_
    walk_at "r"
    have s24 := s23.trans s4
    have kp4 := kp02.trans (Jv.Kp.same s24)
    have hh4 := hh2.same s24
    -- a ladder that is none
    refine ⟨fun σ H' => ∃ y6 v dv, σ = [some (.ref h), some (.ref a), some (.int l), some (.ref X), some (.int (0 + (i : Nat))), some (.int lo), y6, some v, y8, y9, y10, y11, y12, y13, y14] ∧ Jv.Dv K H' v dv ∧ Jv.wholeD dv (.int 0) (.int l) = false ∧ Jv.Kp h H4 H' ∧ Jv.Hand H' h hl, ?_, ?_⟩
    · walk_at "r"
      intro t2 ht2
      obtain ⟨np, _⟩ := hh4.ne2 ht2
      have n2 := Jv.same_new (u := .lst [.int (-1), .int (l + 1), .bl true, .non, .int (10 ^ Int.toNat 20)]) ht2
      have hh5 := hh4.same n2
      walk_at "r"
      refine ⟨h, hl, 5, rfl, hh5, ⟨by decide, Jv.log_small (by decide) (by decide)⟩, fun z H5 z0 z1 kp5 hh5' => ?_⟩
      have ep := kp5 _ _ np upd_same
      walk_at "r"
      refine pickL ep (.cons (.int _) (.cons (.int _) (.cons (.bl _) (.cons .non (.cons (.int _) .nil))))) z0 (by simpa using z1) fun v d hd dv => ?_
      refine ⟨_, _, _, rfl, dv, ?_, (Jv.Kp.same n2).trans kp5, hh5'⟩
      have e20 : (10 : Int) ^ Int.toNat 20 = 100000000000000000000 := by decide
      simp only [List.mem_cons, List.not_mem_nil, or_false] at hd
      rcases hd with rfl | rfl | rfl | rfl | rfl
      · exact whole_hi (by omega)
      · exact whole_hi (by omega)
      · rfl
      · rfl
      · exact whole_hi (by rw [e20]; omega)
    rintro σ H5 ⟨y6', v5, d5, rfl, dv5, hf5, kp5, hh5⟩
    have kp05 := kp4.trans kp5
    have hc5 : CAt K H5 T.C_Costs a l (linT L) p q := (hc.same kp05.hide).same Jv.hide_le
    walk_at "r"
    refine ⟨a, v5, d5, l, L, p, q, rfl, hc5, hw, dv5, .inr ⟨hf5, fun H6 s6 => ?_⟩⟩
    walk_at "r"
    refine ne_self (.str _) (.str _) (by decide +kernel) ?_
    walk_at "r"
    have hh6 := hh5.same s6
    have kp06 := kp05.trans (Jv.Kp.same s6)
    -- amounts
    refine ⟨h, hl, _, rfl, hh6, ⟨by decide, Jv.log_small (by decide) (by decide)⟩, fun z1 H7 _ _ kp7 hh7 => ?_⟩
    walk_at "r"
    refine ⟨h, hl, _, rfl, hh7, ⟨by decide, Jv.log_small (by decide) (by decide)⟩, fun z2 H8 _ _ kp8 hh8 => ?_⟩
    walk_at "r"
    intro t3 ht3
    obtain ⟨np3, _⟩ := hh8.ne2 ht3
    have n3 := Jv.same_new (u := .lst [.int 0, .int 1, .int (-1), .int (10 ^ Int.toNat 6), .int (-10 ^ Int.toNat 6), .int (10 ^ Int.toNat 6 + 1), .non, .bl true, .int z1, .int (-z2)]) ht3
    have hh9 := hh8.same n3
    have kp09 := kp06.trans (kp7.trans (kp8.trans (Jv.Kp.same n3)))
    walk_at "r"
    refine ⟨fun σ H' => ∃ y7 y8 v dv, σ = [some (.ref h), some (.ref a), some (.int l), some (.ref X), some (.int (0 + (i : Nat))), some (.int lo), y6', y7, y8, some v, y10, y11, y12, y13, y14] ∧ Jv.Dv K H' v dv ∧ Jv.Kp h H H' ∧ Jv.Hand H' h hl, ?_, ?_⟩
    · walk_at "r"
      refine ⟨h, hl, 10, rfl, hh9, ⟨by decide, Jv.log_small (by decide) (by decide)⟩, fun z H9 y0 y1 kp9 hh9' => ?_⟩
      have ep := kp9 _ _ np3 upd_same
      walk_at "r"
      refine pickS ep (.cons (.int _) (.cons (.int _) (.cons (.int _) (.cons (.int _) (.cons (.int _) (.cons (.int _) (.cons .non (.cons (.bl _) (.cons (.int _) (.cons (.int _) .nil)))))))))) y0 (by simpa using y1) fun v d hd dv => ?_
      exact ⟨_, _, _, _, rfl, dv, kp09.trans kp9, hh9'⟩
    rintro σ H9 ⟨y7', y8', v9, d9, rfl, dv9, kp9, hh9'⟩
    have hc9 : CAt K H9 T.C_Costs a l (linT L) p q := (hc.same kp9.hide).same Jv.hide_le
    have hx9 : Jv.Dv K H9 (.ref X) (linLL L) := (hx.same kp9.hide).same Jv.hide_le
    walk_at "r"
    refine ⟨a, v9, d9, l, L, p, q, rfl, hc9, hw, dv9, fun r1 H10 s10 dr1 => ?_⟩
    walk_at "r"
    refine ⟨.ref X, v9, d9, l, L, p, q, rfl, hw, hx9.same s10, dv9.same s10, fun r2 H11 s11 dr2 => ?_⟩
    walk_at "r"
    refine ne_self (dr1.same s11) dr2 (shaped_addR _ _ _) ?_
    walk_at "r"
    have s9 := s10.trans s11
    have hh11 := hh9'.same s9
    have kp11 := kp9.trans (Jv.Kp.same s9)
    -- a side
    refine ⟨fun σ H' => ∃ v dv, σ = [some (.ref h), some (.ref a), some (.int l), some (.ref X), some (.int (0 + (i : Nat))), some (.int lo), y6', y7', y8', some v9, some v, y11, y12, y13, y14] ∧ Jv.Dv K H' v dv ∧ flatD dv = true ∧ Jv.Kp h H H' ∧ Jv.Hand H' h hl, ?_, ?_⟩
    · walk_at "r"
      intro t4 ht4
      obtain ⟨np4, _⟩ := hh11.ne2 ht4
      have n4 := Jv.same_new (u := .lst [.int 0, .int 1, .int 0, .int 1, .int 2, .bl true, .non, .int (-1)]) ht4
      have hh12 := hh11.same n4
      walk_at "r"
      refine ⟨h, hl, 8, rfl, hh12, ⟨by decide, Jv.log_small (by decide) (by decide)⟩, fun z H12 y0 y1 kp12 hh12' => ?_⟩
      have ep := kp12 _ _ np4 upd_same
      walk_at "r"
      refine pickL ep (.cons (.int _) (.cons (.int _) (.cons (.int _) (.cons (.int _) (.cons (.int _) (.cons (.bl _) (.cons .non (.cons (.int _) .nil)))))))) y0 (by simpa using y1) fun v d hd dv => ?_
      refine ⟨_, _, rfl, dv, ?_, kp11.trans ((Jv.Kp.same n4).trans kp12), hh12'⟩
      simp only [List.mem_cons, List.not_mem_nil, or_false] at hd
      rcases hd with rfl | rfl | rfl | rfl | rfl | rfl | rfl | rfl <;> rfl
    rintro σ H12 ⟨v12, d12, rfl, dv12, hf12, kp12, hh12⟩
    have hx12 : Jv.Dv K H12 (.ref X) (linLL L) := (hx.same kp12.hide).same Jv.hide_le
    -- an order
    refine ⟨fun σ H' => ∃ r, ∃ ns : List Int, ∃ dv, σ = [some (.ref h), some (.ref a), some (.int l), some (.ref X), some (.int (0 + (i : Nat))), some (.int lo), y6', y7', y8', some v9, some v12, some (.ref r), y12, y13, y14] ∧ Jv.Dv K H' v12 dv ∧ H' r = some (.lst (ns.map V.int)) ∧ (1 ≤ ns.length ∧ ns.length ≤ 6) ∧ Jv.Kp h H H' ∧ Jv.Hand H' h hl, ?_, ?_⟩
    · obtain ⟨xs, eX, alX⟩ : ∃ xs, H12 X = some (.lst xs) ∧ Jv.DvAll K H12 xs (L.map rowLL) := by
        cases hx12 with
        | lst e q => exact ⟨_, e, q⟩
      have lxs := alX.len
      rw [List.length_map, hw.hp] at lxs
      have h00 : xs[0]? = some xs[0] := List.getElem?_eq_getElem (by omega)
      obtain ⟨d0, c0, dv0⟩ := alX.at h00
      obtain ⟨line0, hl0, rfl⟩ := mapAt c0
      obtain ⟨us0, sk0, al0⟩ := dv0.sk rfl
      have lu0 := al0.len
      rw [List.length_map, hw.hq line0 (List.mem_of_getElem? hl0)] at lu0
      have go : ∀ m : Int, 1 ≤ m ∧ m ≤ 6 → ∀ (r : Addr) (ns : List Int) (H' : Hp), ns.Perm (Jv.rgI m.toNat) → H12 r = none → H' r = some (.lst (ns.map V.int)) → Jv.Kp h H12 H' → Jv.Hand H' h hl →
          ∃ r2, ∃ ns : List Int, ∃ dv, ([some (V.ref h), some (.ref a), some (.int l), some (.ref X), some (.int (0 + (i : Nat))), some (.int lo), y6', y7', y8', some v9, some v12, some (.ref r), y12, y13, y14] : L2.St) = [some (V.ref h), some (.ref a), some (.int l), some (.ref X), some (.int (0 + (i : Nat))), some (.int lo), y6', y7', y8', some v9, some v12, some (.ref r2), y12, y13, y14] ∧
            Jv.Dv K H' v12 dv ∧ H' r2 = some (.lst (ns.map V.int)) ∧ (1 ≤ ns.length ∧ ns.length ≤ 6) ∧ Jv.Kp h H H' ∧ Jv.Hand H' h hl := fun m hm r ns H' pm fr er kp hh => by
        have ln := pm.length_eq
        rw [show (Jv.rgI m.toNat).length = m.toNat by simp [Jv.rgI]] at ln
        exact ⟨r, ns, _, rfl, flat_dv hf12 dv12, er, by omega, kp12.trans kp, hh⟩
      walk_at "r"
      refine ⟨d12, .int 1, dv12.dp, .int 1, shaped_flat hf12, shaped_flat rfl, ?_⟩
      cases ec : PyData.eqv d12 (.int 1) with
      | true =>
        walk_at "r"
        refine Jv.r_ixL (Jv.sqL_at eX) (Jv.at_i (k := 0) (by decide) h00) ?_
        walk_at "r"
        refine sk0.len ?_
        rw [lu0]
        walk_at "r"
        exact ⟨h, hl, q, rfl, hh12, ⟨by omega, by omega⟩, fun r ns H13 pm fr er kp13 hh13 => by
          walk_at "r"
          exact go q ⟨by omega, by omega⟩ r ns H13 pm fr er kp13 hh13⟩
      | false =>
        walk_at "r"
        rw [lxs]
        refine ⟨h, hl, p, rfl, hh12, ⟨by omega, by omega⟩, fun r ns H13 pm fr er kp13 hh13 => ?_⟩
        walk_at "r"
        exact go p ⟨by omega, by omega⟩ r ns H13 pm fr er kp13 hh13
    rintro σ H13 ⟨r, ns, d13, rfl, dv13, er, ⟨ln0, ln6⟩, kp13, hh13⟩
    have hc13 : CAt K H13 T.C_Costs a l (linT L) p q := (hc.same kp13.hide).same Jv.hide_le
    have hx13 : Jv.Dv K H13 (.ref X) (linLL L) := (hx.same kp13.hide).same Jv.hide_le
    walk_at "r"
    refine Jv.r_tupOfL (Jv.sqL_at er) fun t1 ht1 => ?_
    have n1 := Jv.same_new (u := .tup (ns.map V.int)) ht1
    have f1 : upd H13 t1 (.tup (ns.map V.int)) t1 = some (.tup (ns.map V.int)) := upd_same
    generalize upd H13 t1 (.tup (ns.map V.int)) = G1 at n1 f1 ⊢
    walk_at "r"
    intro t2 ht2
    have n2 := Jv.same_new (u := .lst [.int 0]) ht2
    have f2 : upd G1 t2 (.lst [.int 0]) t2 = some (.lst [.int 0]) := upd_same
    generalize upd G1 t2 (.lst [.int 0]) = G2 at n2 f2 ⊢
    walk_at "r"
    refine ⟨r, t2, _, _, rfl, rfl, n2 _ _ (n1 _ _ er), f2, Jv.small_of (by rw [List.length_map]; show ns.length + 1 ≤ 1000; omega), fun t3 ht3 => ?_⟩
    have n3 := Jv.same_new (u := .lst (ns.map V.int ++ [.int 0])) ht3
    have f3 : upd G2 t3 (.lst (ns.map V.int ++ [.int 0])) t3 = some (.lst (ns.map V.int ++ [.int 0])) := upd_same
    generalize upd G2 t3 (.lst (ns.map V.int ++ [.int 0])) = G3 at n3 f3 ⊢
    have n13 := n1.trans (n2.trans n3)
    walk_at "r"
    unfold tSl tPart tNoPart
    walk_at "r"
    refine ⟨1, rfl, ?_⟩
    refine ⟨r, _, rfl, Jv.sqL_at (n13 _ _ er), fun t4 ht4 => ?_⟩
    obtain ⟨ms, e1, e2⟩ := cut_ints ns (some 1) none
    rw [e1]
    have n4 := Jv.same_new (u := .lst (ms.map V.int)) ht4
    have f4 : upd G3 t4 (.lst (ms.map V.int)) t4 = some (.lst (ms.map V.int)) := upd_same
    generalize upd G3 t4 (.lst (ms.map V.int)) = G4 at n4 f4 ⊢
    have n14 := n13.trans n4
    walk_at "r"
    obtain ⟨z0, hz0⟩ : ∃ z0, ns[0]? = some z0 := ⟨ns[0], List.getElem?_eq_getElem (by omega)⟩
    refine Jv.r_ixL (Jv.sqL_at (n14 _ _ er)) (Jv.at_i (k := 0) (v := .int z0) (by decide) (by rw [List.getElem?_map]; show ns[0]?.map V.int = _; rw [hz0]; rfl)) ?_
    walk_at "r"
    intro t5 ht5
    have n5 := Jv.same_new (u := .lst [.int z0]) ht5
    have f5 : upd G4 t5 (.lst [.int z0]) t5 = some (.lst [.int z0]) := upd_same
    generalize upd G4 t5 (.lst [.int z0]) = G5 at n5 f5 ⊢
    have n15 := n14.trans n5
    have er5 := n15 _ _ er
    walk_at "r"
    rw [List.length_map]
    refine ⟨t5, _, _, rfl, rfl, f5, by omega, by omega, Jv.small_of (by show 1 * _ ≤ 1000; omega), fun t6 ht6 => ?_⟩
    have eR : (List.replicate ((ns.length : Int)).toNat [V.int z0]).flatten = (List.replicate ns.length z0).map V.int := by
      rw [Int.toNat_natCast]
      generalize ns.length = n
      induction n with
      | zero => rfl
      | succ n ih => rw [List.replicate_succ, List.flatten_cons, ih, List.replicate_succ]; rfl
    rw [eR]
    have n6 := Jv.same_new (u := .lst ((List.replicate ns.length z0).map V.int)) ht6
    have f6 : upd G5 t6 (.lst ((List.replicate ns.length z0).map V.int)) t6 = some (.lst ((List.replicate ns.length z0).map V.int)) := upd_same
    generalize upd G5 t6 (.lst ((List.replicate ns.length z0).map V.int)) = G6 at n6 f6 ⊢
    have n16 := n15.trans n6
    walk_at "r"
    intro t7 ht7
    have n7 := Jv.same_new (u := .lst [.ref r, .ref t1, .ref t3, .ref t4, .ref t6, .non]) ht7
    have f7 : upd G6 t7 (.lst [.ref r, .ref t1, .ref t3, .ref t4, .ref t6, .non]) t7 = some (.lst [.ref r, .ref t1, .ref t3, .ref t4, .ref t6, .non]) := upd_same
    generalize upd G6 t7 (.lst [.ref r, .ref t1, .ref t3, .ref t4, .ref t6, .non]) = G7 at n7 f7 ⊢
    have n17 := n16.trans n7
    have alD : Jv.DvAll K G7 [.ref r, .ref t1, .ref t3, .ref t4, .ref t6, .non] [.list (ns.map .int), .tuple (ns.map .int), .list (ns.map .int ++ [.int 0]), .list (ms.map .int), .list ((List.replicate ns.length z0).map .int), .none] :=
      .cons (.lst (n17 _ _ er) (Jv.dv_ints ns)) (.cons (.tup (Jv.sqT_at (n7 _ _ (n6 _ _ (n5 _ _ (n4 _ _ (n3 _ _ (n2 _ _ f1))))))) (Jv.dv_ints ns)) (.cons (.lst (n7 _ _ (n6 _ _ (n5 _ _ (n4 _ _ f3)))) (Jv.DvAll.snoc (.int 0) (Jv.dv_ints ns)))
        (.cons (.lst (n7 _ _ (n6 _ _ (n5 _ _ f4))) (Jv.dv_ints ms)) (.cons (.lst (n7 _ _ f6) (Jv.dv_ints _)) (.cons .non .nil)))))
    have fewD : ∀ d ∈ ([.list (ns.map .int), .tuple (ns.map .int), .list (ns.map .int ++ [.int 0]), .list (ms.map .int), .list ((List.replicate ns.length z0).map .int), .none] : List PyData), few60 d := fun d hd => by
      simp only [List.mem_cons, List.not_mem_nil, or_false] at hd
      rcases hd with rfl | rfl | rfl | rfl | rfl | rfl <;> intro es he <;> cases he <;> simp <;> omega
    walk_at "r"
    refine ⟨t7, rfl, ⟨_, Jv.sqL_at f7⟩, ?_⟩
    refine for_list (xs := [.ref r, .ref t1, .ref t3, .ref t4, .ref t6, .non]) (fun j σ H' => ∃ y12, σ = [some (.ref h), some (.ref a), some (.int l), some (.ref X), some (.int (0 + (i : Nat))), some (.int lo), y6', y7', y8', some v9, some v12, some (.ref r), y12, y13, y14] ∧ Same G7 H')
      ⟨_, rfl, Same.refl _⟩ (fun _ _ _ _ ⟨_, _, s⟩ => Jv.sqL_at (s _ _ f7)) ?_ ?_
    · rintro j v σ G8 hv ⟨y12', rfl, s8⟩
      obtain ⟨dd, hd, dv⟩ := alD.at hv
      have fd := fewD dd (List.mem_of_getElem? hd)
      have s138 := n17.trans s8
      walk_at "r"
      refine ⟨a, v12, v, l, L, p, q, d13, dd, rfl, hc13.same s138, hw, dv13.same s138, dv.same s8, fd, fun r1 H10 s10 dr1 => ?_⟩
      walk_at "r"
      refine ⟨.ref X, v12, v, l, L, p, q, d13, dd, rfl, hw, hx13.same (s138.trans s10), dv13.same (s138.trans s10), (dv.same s8).same s10, fd, fun r2 H11 s11 dr2 => ?_⟩
      walk_at "r"
      refine ne_self (dr1.same s11) dr2 (shaped_renD _ _ _ _ _) ?_
      walk_at "r"
      exact ⟨_, rfl, s8.trans (s10.trans s11)⟩
    · rintro σ G8 ⟨y12', rfl, s8⟩
      have s138 := n17.trans s8
      exact ⟨_, _, _, _, _, _, _, _, _, _, _, rfl, kp13.trans (Jv.Kp.same s138), hh13.same s138⟩
  · rintro σ H1 ⟨y4, y5, y6, y7, y8, y9, y10, y11, y12, y13, y14, rfl, kp1, hh1⟩
    have hc1 : CAt K H1 T.C_Costs a l (linT L) p q := (hc.same kp1.hide).same Jv.hide_le
    have hx1 : Jv.Dv K H1 (.ref X) (linLL L) := (hx.same kp1.hide).same Jv.hide_le
    obtain ⟨dx, wv, tv, hca, hW, _⟩ := id hc1
    walk_at "r"
    refine Jv.r_fld ?_
    walk_at "r"
    refine ⟨a, _, dx, _, _, rfl, hca, O.o_Costs, O.n_Costs_ladder, rfl, ?_⟩
    walk_at "r"
    refine eq_self (.int l) (.int l) (shaped_flat rfl) ?_
    walk_at "r"
    refine Jv.r_fld ?_
    walk_at "r"
    refine ⟨a, _, dx, _, _, rfl, hca, O.o_Costs, O.n_Costs_lines, rfl, ?_⟩
    walk_at "r"
    refine ⟨_, _, rfl, hx1, hw.fl, fun r H2 s2 dv => ?_⟩
    walk_at "r"
    refine eq_self (hW.same s2) dv (shaped_lin _) ?_
    walk_at "r"
    exact k H2 (kp1.trans (Jv.Kp.same s2)) (hh1.same s2)
end
end K49

namespace K49
open PySem PySem.Spec PyProof.Rows L2
/-! ### equal costs -/
theorem eqvAll_map {α : Type} [DecidableEq α] {f : α → PyData} (h : ∀ x y, PyData.eqv (f x) (f y) = decide (x = y)) : ∀ l m : List α, PyData.eqvAll (l.map f) (m.map f) = decide (l = m)
  | [], [] => rfl
  | [], b :: s => by simp [PyData.eqvAll]
  | a :: r, [] => by simp [PyData.eqvAll]
  | a :: r, b :: s => by
    rw [List.map_cons, List.map_cons, PyData.eqvAll, h, eqvAll_map h r s]
    by_cases e1 : a = b <;> by_cases e2 : r = s <;> simp [e1, e2]
theorem eqv_lin (L1 L2 : List (List (List Int))) : PyData.eqv (linT L1) (linT L2) = decide (L1 = L2) := by
  unfold linT
  rw [PyData.eqv]
  refine eqvAll_map (fun a b => ?_) _ _
  unfold rowT
  rw [PyData.eqv]
  refine eqvAll_map (fun c d => ?_) _ _
  rw [PyData.eqv]
  exact eqvAll_map (fun i j => by rw [PyData.eqv]; by_cases e : i = j <;> simp [e]) _ _
section
variable {K : PySem.W.Frag} {H H' : Hp} {N : List Addr}
theorem dvT_hide (hN : ∀ b ∈ N, ∃ ys, H b = some (.lst ys)) {v : V} {L : List (List (List Int))} (h : Jv.Dv K H v (linT L)) : Jv.Dv K (Jv.hide N H) v (linT L) := by
  cases h with
  | tup e q =>
    refine .tup (Jv.sqT_hide hN e) (q.imp fun v d m dv => ?_)
    obtain ⟨line, _, rfl⟩ := List.mem_map.mp m
    cases dv with
    | tup e q =>
      refine .tup (Jv.sqT_hide hN e) (q.imp fun v d m dv => ?_)
      obtain ⟨ns, _, rfl⟩ := List.mem_map.mp m
      cases dv with
      | tup e q =>
        refine .tup (Jv.sqT_hide hN e) (q.imp fun v d m dv => ?_)
        obtain ⟨n, _, rfl⟩ := List.mem_map.mp m
        cases dv
        exact .int _
theorem CAt.hide {C a : Addr} {l : Int} {L : List (List (List Int))} {p q : Int} (hN : ∀ b ∈ N, ∃ ys, H b = some (.lst ys)) (h : CAt K H C a l (linT L) p q) : CAt K (Jv.hide N H) C a l (linT L) p q := by
  obtain ⟨dx, w, t, h1, h2, h4⟩ := h
  refine ⟨dx, w, t, Jv.hide_at (fun m => by obtain ⟨ys, e⟩ := hN a m; rw [h1] at e; cases e) h1, dvT_hide hN h2, ?_⟩
  cases h4 with
  | tup e q =>
    refine .tup (Jv.sqT_hide hN e) (q.imp fun v d m dv => ?_)
    simp only [List.mem_cons, List.not_mem_nil, or_false] at m
    rcases m with rfl | rfl <;> cases dv <;> exact .int _
end
def sp_Costs_eq (K : PySem.W.Frag) (C : Addr) : Sp := fun vs H Q _ => ∃ a b l L, ∃ p q : Int, vs = [.ref a, .ref b] ∧ CAt K H C a l (linT L) p q ∧
  ((∃ l2 L2, ∃ p2 q2 : Int, CAt K H C b l2 (linT L2) p2 q2 ∧ Q (.bl (decide (l = l2 ∧ L = L2))) H) ∨ (∃ ys, SqT K H b ys ∧ Q (.bl false) H))
section
variable {P : Program} {w : World} {K : PySem.W.Frag} {mg : Str → Option Value} {base : Heap}
theorem ok_Costsu_equ (T : Tx) (O : Ok K mg T) : FnOk P w K mg base CX0 1 T.f_Costsu_equ T.d_Costsu_equ ["self", "other"] (sp_Costs_eq K T.C_Costs) := by
  refine O.F_Costsu_equ.ok sc_Costsu_equ (fun vs H Q E h => by obtain ⟨_, _, _, _, _, _, rfl, _⟩ := h; rfl) (fun cdv A outer s H vs Q E hr h => ?_)
  obtain ⟨a, b, l, L, p, q, rfl, ha, qq⟩ := h
  refine ⟨_, (pss_one (ps_ret (pe_and (pe_callB (r := rIsi K) call_isi (by rfl) O.z_isinstance (by decide +kernel) (pa_cons (pv 1) (pa_cons (pe_glob (v := .ref _) (by rfl) O.m_Costs rfl) pa_nil))) (pe_and (pe_cmpR op_eq (show PE _ _ (tFld K _ _) from pe_fld (pv 0) rfl) (show PE _ _ (tFld K _ _) from pe_fld (pv 1) rfl) (nomark _)) (pe_one (pe_cmpR (r := rEqD K) (op_eqD hr.units) (show PE _ _ (tFld K _ _) from pe_fld (pv 0) rfl) (show PE _ _ (tFld K _ _) from pe_fld (pv 1) rfl) (nomark _))))))), ?_⟩
  obtain ⟨dx, wv, tv, hca, hW, _⟩ := id ha
  walk_at "r"
  rcases qq with ⟨l2, L2, p2, q2, hb, k⟩ | ⟨ys, hb, k⟩
  · obtain ⟨dx2, wv2, tv2, hcb, hW2, _⟩ := id hb
    refine ⟨_, _, _, _, true, rfl, .own T.C_Costs, .base (.ins hcb O.o_Costs O.i_Costs_ca O.i_Costs_cn O.i_Costs_ct O.i_Costs_cm), by simp [PySem.W.kitOne], ?_⟩
    walk_at "r"
    refine Jv.r_fld ?_
    walk_at "r"
    refine ⟨a, _, dx, _, _, rfl, hca, O.o_Costs, O.n_Costs_ladder, rfl, ?_⟩
    walk_at "r"
    refine Jv.r_fld ?_
    walk_at "r"
    refine ⟨b, _, dx2, _, _, rfl, hcb, O.o_Costs, O.n_Costs_ladder, rfl, ?_⟩
    walk_at "r"
    by_cases e1 : l = l2
    · subst e1
      walk_at "r"
      rw [decide_eq_true rfl, if_pos rfl]
      walk_at "r"
      refine Jv.r_fld ?_
      walk_at "r"
      refine ⟨a, _, dx, _, _, rfl, hca, O.o_Costs, O.n_Costs_lines, rfl, ?_⟩
      walk_at "r"
      refine Jv.r_fld ?_
      walk_at "r"
      refine ⟨b, _, dx2, _, _, rfl, hcb, O.o_Costs, O.n_Costs_lines, rfl, ?_⟩
      walk_at "r"
      refine ⟨_, _, hW.dp, hW2.dp, shaped_lin _, shaped_lin _, ?_⟩
      rw [eqv_lin]
      have e2 : decide (l = l ∧ L = L2) = decide (L = L2) := by simp
      rw [e2] at k
      exact k
    · rw [decide_eq_false (fun h => e1 h.1)] at k
      walk_at "r"
      rw [decide_eq_false (fun e => e1 (V.int.inj e)), if_neg Bool.false_ne_true]
      exact k
  · refine ⟨_, _, _, _, false, rfl, .own T.C_Costs, Jv.tyT hb, O.i_Costs_kt, ?_⟩
    walk_at "r"
    exact k
end
end K49

namespace K49
open PySem PySem.Spec PyProof.Rows L2
/-! ### a case -/
def sp_Lcase : Sp := fun vs H Q _ => ∃ h hl, vs = [.ref h] ∧ Jv.Hand H h hl ∧ ∀ H', Q (.bl true) H'
theorem r_make0 {C : Addr} {sp : Sp} {dvs : List V} {E : XK} {t : TA} {σ : L2.St} {H : Hp} {Q : VK} (h : t σ H fun vs H1 => ∀ x dx, H1 x = none → H1 dx = none → dx ≠ x →
  sp (.ref x :: (vs ++ dvs)) (upd (upd H1 dx (.own x)) x (.ins C dx [])) (fun v H2 => v = .non ∧ Q (.ref x) H2) E) : tMake C sp dvs E t σ H Q := h
theorem gen_make {C : Addr} {sp : Sp} {dvs : List V} {E : XK} {t : TA} {σ : L2.St} {H : Hp} {Q : VK} (h : ∀ Q' : VK, (∀ v H, Q v H → Q' v H) → tMake C sp dvs E t σ H Q') : tMake C sp dvs E t σ H Q := h Q fun _ _ q => q
theorem _root_.Jv.Hand.lst {H : Hp} {p l : Addr} (h : Jv.Hand H p l) : ∀ b ∈ [p], ∃ ys, H b = some (.lst ys) := fun b m => by
  rw [List.mem_singleton.mp m]
  obtain ⟨_, _, _, _, hA⟩ := h
  exact ⟨_, hA.hp⟩
theorem dv2_hide {K : PySem.W.Frag} {H : Hp} {N : List Addr} {v : V} {p q : Int} (hN : ∀ b ∈ N, ∃ ys, H b = some (.lst ys)) (h : Jv.Dv K H v (.tuple [.int p, .int q])) : Jv.Dv K (Jv.hide N H) v (.tuple [.int p, .int q]) := by
  cases h with
  | tup e q =>
    refine .tup (Jv.sqT_hide hN e) (q.imp fun v d m dv => ?_)
    simp only [List.mem_cons, List.not_mem_nil, or_false] at m
    rcases m with rfl | rfl <;> cases dv <;> exact .int _
theorem shaped_told (l : Int) (L : List (List (List Int))) (p q : Int) : SeqAt.shaped (.tuple [.int l, linT L, .tuple [.int p, .int q]]) = true := by
  refine shaped_of (by simp [PyData.canLay0, PyData.canLayAll0, can_lin]) ?_
  have := dep_lin L
  simp [PyData.depth, PyData.depthAll]; omega
section
variable {l : Int} {L : List (List (List Int))} {p q : Nat}
/-- one number of the costs another one -/
theorem Gc.put (w : Gc l L p q) {e f : Nat} {line : List (List Int)} {ns : List Int} (h1 : L[e]? = some line) (h2 : line[f]? = some ns) {g : Nat} {z : Int} (hz : 0 ≤ z ∧ z ≤ 1000000) : Gc l (L.set e (line.set f (ns.set g z))) p q := by
  have hl := List.mem_of_getElem? h1
  have hn := List.mem_of_getElem? h2
  refine ⟨w.l0, w.l6, by rw [List.length_set]; exact w.hp, fun r hr => ?_, w.p0, w.p6, w.q0, w.q6, w.pq, fun r hr ms hm => ?_, fun r hr ms hm n hn' => ?_⟩
  · rcases List.mem_or_eq_of_mem_set hr with hr | rfl
    · exact w.hq r hr
    · rw [List.length_set]; exact w.hq line hl
  · rcases List.mem_or_eq_of_mem_set hr with hr | rfl
    · exact w.len r hr ms hm
    · rcases List.mem_or_eq_of_mem_set hm with hm | rfl
      · exact w.len line hl ms hm
      · rw [List.length_set]; exact w.len line hl ns hn
  · rcases List.mem_or_eq_of_mem_set hr with hr | rfl
    · exact w.ent r hr ms hm n hn'
    · rcases List.mem_or_eq_of_mem_set hm with hm | rfl
      · exact w.ent line hl ms hm n hn'
      · rcases List.mem_or_eq_of_mem_set hn' with hn' | rfl
        · exact w.ent line hl ns hn n hn'
        · exact hz
end
section
variable {P : Program} {w : World} {K : PySem.W.Frag} {mg : Str → Option Value} {base : Heap}
theorem ok_Lcase (T : Tx) (O : Ok K mg T) : FnOk P w K mg base CX0 9 T.f_Lcase T.d_Lcase ["_law_hand_here"] sp_Lcase := by
  refine O.F_Lcase.ok sc_Lcase (fun vs H Q E h => by obtain ⟨_, _, rfl, _⟩ := h; rfl) (fun cdv A outer s H vs Q E hr h => ?_)
  obtain ⟨h, hl, rfl, hh, k⟩ := h
  refine ⟨_, (pss_cons (ps_asg (pe_call (ok_Ldrawn T O) (hr.mono (by decide)) (by rfl) O.m_Ldrawn O.F_Ldrawn.kp O.b_Ldrawn .nil pass0 (pa_cons (pv 0) pa_nil)) (pg_tup rfl (pgs_cons (pg_name (i := 1) sc_Lcase.nd rfl (Or.inl rfl)) (pgs_cons (pg_name (i := 2) sc_Lcase.nd rfl (Or.inl rfl)) (pgs_cons (pg_name (i := 3) sc_Lcase.nd rfl (Or.inl rfl)) pgs_nil)))))
  (pss_cons (ps_set (i := 4) sc_Lcase.nd rfl (Or.inl rfl) (pe_call (ok_Llists T O) (hr.mono (by decide)) (by rfl) O.m_Llists O.F_Llists.kp O.b_Llists .nil pass0 (pa_cons (pv 3) pa_nil)))
  (pss_cons (ps_set (i := 5) sc_Lcase.nd rfl (Or.inl rfl) (pe_make (E := E0) O.k_Costs (ok_Costsu_initu T O) (hr.mono (by decide)) (by rfl) O.m_Costs O.b_Costsu_initu .nil passL (pa_cons (pv 2) (pa_cons (pv 4) pa_nil))))
  (pss_cons (ps_set (i := 6) sc_Lcase.nd rfl (Or.inl rfl) (pe_call (ok_Ltuples T O) (hr.mono (by decide)) (by rfl) O.m_Ltuples O.F_Ltuples.kp O.b_Ltuples .nil pass0 (pa_cons (pv 3) pa_nil)))
  (pss_cons (ps_set (i := 7) sc_Lcase.nd rfl (Or.inl rfl) (pe_tup (pa_cons (show PE _ _ (tFld K _ _) from pe_fld (pv 5) rfl) (pa_cons (show PE _ _ (tFld K _ _) from pe_fld (pv 5) rfl) (pa_cons (show PE _ _ (tFld K _ _) from pe_fld (pv 5) rfl) pa_nil)))))
  (pss_cons (ps_asg pe_non (pg_sub (pe_ix (r := rIx K) ix_seq (pv 4) pe_int (fun _ _ => rfl)) pe_int set_list))
  (pss_cons (ps_expr (show PE _ _ (tBM K _ _ _ _) from pe_bm PySem.F.plainAttrs_list PySem.F.slot_list_append PySem.F.type_list_append mt_append (pv 4) (pa_cons pe_int pa_nil)))
  (pss_cons (ps_if (PW.pt (pw_or (pt_cmpR (r := rNeD K) (op_neD hr.units) (pv 7) (pe_tup (pa_cons (pv 2) (pa_cons (pv 6) (pa_cons (pv 1) pa_nil)))) (nomark _)) (pw_or (pt_cmpR (r := rNeD K) (op_neD hr.units) (show PE _ _ (tFld K _ _) from pe_fld (pv 5) rfl) (pv 6) (nomark _)) (pw_or1 (pt_not (pt_val (pe_call (ok_Lwhole T O) (hr.mono (by decide)) (by rfl) O.m_Lwhole O.F_Lwhole.kp O.b_Lwhole .nil pass0 (pa_cons (show PE _ _ (tFld K _ _) from pe_fld (pv 5) rfl) pa_nil)))))))) (pss_one (ps_ret pe_bl)) pss_nil)
  (pss_cons (ps_set (i := 8) sc_Lcase.nd rfl (Or.inl rfl) (pe_call (ok_Ldraw T O) (hr.mono (by decide)) (by rfl) O.m_Ldraw O.F_Ldraw.kp O.b_Ldraw .nil pass0 (pa_cons (pv 0) (pa_cons (pe_ix (r := rIx K) ix_seq (pv 1) pe_int (fun _ _ => rfl)) pa_nil))))
  (pss_cons (ps_set (i := 9) sc_Lcase.nd rfl (Or.inl rfl) (pe_call (ok_Ldraw T O) (hr.mono (by decide)) (by rfl) O.m_Ldraw O.F_Ldraw.kp O.b_Ldraw .nil pass0 (pa_cons (pv 0) (pa_cons (pe_ix (r := rIx K) ix_seq (pv 1) pe_int (fun _ _ => rfl)) pa_nil))))
  (pss_cons (ps_set (i := 10) sc_Lcase.nd rfl (Or.inl rfl) (pe_call (ok_Ldraw T O) (hr.mono (by decide)) (by rfl) O.m_Ldraw O.F_Ldraw.kp O.b_Ldraw .nil pass0 (pa_cons (pv 0) (pa_cons (pe_op op_add (pv 2) pe_int) pa_nil))))
  (pss_cons (ps_set (i := 11) sc_Lcase.nd rfl (Or.inl rfl) (pe_call (ok_Llists T O) (hr.mono (by decide)) (by rfl) O.m_Llists O.F_Llists.kp O.b_Llists .nil pass0 (pa_cons (pv 3) pa_nil)))
  (pss_cons (ps_asg (pe_call (ok_Ldraw T O) (hr.mono (by decide)) (by rfl) O.m_Ldraw O.F_Ldraw.kp O.b_Ldraw .nil pass0 (pa_cons (pv 0) (pa_cons (pe_op op_add (pe_op op_pow pe_int pe_int) pe_int) pa_nil))) (pg_sub (pe_ix (r := rIx K) ix_seq (pe_ix (r := rIx K) ix_seq (pv 11) (pv 8) (fun _ _ => rfl)) (pv 9) (fun _ _ => rfl)) (pv 10) set_list))
  (pss_cons (ps_if (PW.pt (pw_or (pt_cmpR op_ne (pe_cmpR (Jv.op_eqO (ok_Costsu_equ T O) O.h_Costsu_equ O.i_Costs_nt (hr.mono (by decide)) O.b_Costsu_equ pass0) (pe_make (E := E0) O.k_Costs (ok_Costsu_initu T O) (hr.mono (by decide)) (by rfl) O.m_Costs O.b_Costsu_initu .nil passL (pa_cons (pv 2) (pa_cons (pv 11) pa_nil))) (pv 5) (nomark _)) (pe_cmpR (r := rEqD K) (op_eqD hr.units) (pe_call (ok_Ltuples T O) (hr.mono (by decide)) (by rfl) O.m_Ltuples O.F_Ltuples.kp O.b_Ltuples .nil pass0 (pa_cons (pv 11) pa_nil)) (pv 6) (nomark _)) (nomark _)) (pw_or (pt_cmpR (Jv.op_neO (ok_Costsu_equ T O) O.h_Costsu_equ O.i_Costs_ne O.i_Costs_cm O.i_Costs_nt (hr.mono (by decide)) O.b_Costsu_equ pass0) (pv 5) (pe_make (E := E0) O.k_Costs (ok_Costsu_initu T O) (hr.mono (by decide)) (by rfl) O.m_Costs O.b_Costsu_initu .nil passL (pa_cons (pv 2) (pa_cons (pv 6) pa_nil))) (nomark _)) (pw_or1 (pt_cmpR (Jv.op_eqO (ok_Costsu_equ T O) O.h_Costsu_equ O.i_Costs_nt (hr.mono (by decide)) O.b_Costsu_equ pass0) (pv 5) (pv 6) (nomark _)))))) (pss_one (ps_ret pe_bl)) pss_nil)
  (pss_one (ps_ret (pe_and (pe_call (ok_Lrefused T O) (hr.mono (by decide)) (by rfl) O.m_Lrefused O.F_Lrefused.kp O.b_Lrefused .nil pass0 (pa_cons (pv 0) (pa_cons (pv 2) (pa_cons (pv 3) pa_nil)))) (pe_one (pe_call (ok_Lturned T O) (hr.mono (by decide)) (by rfl) O.m_Lturned O.F_Lturned.kp O.b_Lturned .nil pass0 (pa_cons (pv 0) (pa_cons (pv 5) (pa_cons (pv 2) (pa_cons (pv 3) pa_nil))))))))))))))))))))))), ?_⟩
  walk_at "r"
  refine ⟨h, hl, rfl, hh, fun r sA x l L H1 p q hw kp1 hh1 er es hx => ?_⟩
  have p0 := hw.p0
  have q0 := hw.q0
  have p6 := hw.p6
  have q6 := hw.q6
  have l0 := hw.l0
  have l6 := hw.l6
  have hx1 : Jv.Dv K H1 x (linLL L) := hx.same Jv.hide_le
  walk_at "r"
  refine ⟨x, L, rfl, hx1, hw.fl, fun D A H2 s2 ft fr => ?_⟩
  walk_at "r"
  refine gen_make fun Q1 hQ1 => r_make0 ?_
  walk_at "r"
  refine mk_goodC (.int l) ft.dv (hw.good linesR_LL) fun c H3 s3 hcn ga3 => hQ1 _ _ ?_
  walk_at "r"
  have s13 := s2.trans s3
  refine ⟨x, L, rfl, hx1.same s13, hw.fl, fun du0 H4 s4 dv4 => ?_⟩
  obtain ⟨dA, rfl⟩ : ∃ b, du0 = .ref b := by cases dv4; exact ⟨_, rfl⟩
  have ga4 := ga3.same s4
  obtain ⟨dx, wv, tv, hca, hW, hS⟩ := id ga4
  walk_at "r"
  refine Jv.r_fld ?_
  walk_at "r"
  refine ⟨c, _, dx, _, _, rfl, hca, O.o_Costs, O.n_Costs_ladder, rfl, ?_⟩
  walk_at "r"
  refine Jv.r_fld ?_
  walk_at "r"
  refine ⟨c, _, dx, _, _, rfl, hca, O.o_Costs, O.n_Costs_lines, rfl, ?_⟩
  walk_at "r"
  refine Jv.r_fld ?_
  walk_at "r"
  refine ⟨c, _, dx, _, _, rfl, hca, O.o_Costs, O.n_Costs_sides, rfl, ?_⟩
  walk_at "r"
  intro t ht
  have n5 := Jv.same_new (u := .tup [.int l, wv, tv]) ht
  have ga5 := ga4.same n5
  have dv5 := dv4.same n5
  have et5 : upd H4 t (.tup [.int l, wv, tv]) t = some (.tup [.int l, wv, tv]) := upd_same
  have hW5 := hW.same n5
  have hS5 := hS.same n5
  have s25 := s3.trans (s4.trans n5)
  have s15 := s2.trans s25
  have ft5 : Jv.Ft K (upd H4 t (.tup [.int l, wv, tv])) (.ref D) (.list (L.map rowLL)) A := ft.same s25
  generalize upd H4 t (.tup [.int l, wv, tv]) = H5 at n5 ga5 dv5 et5 hW5 hS5 s25 s15 ft5 ⊢
  have held := ft5.held
  cases ft5 with
  | lst eD fa nD =>
  rename_i xs A'
  have lxs := fa.len
  rw [List.length_map, hw.hp] at lxs
  have x0 : xs[0]? = some xs[0] := List.getElem?_eq_getElem (by omega)
  obtain ⟨dR, B, hdR, ftR, subB, _⟩ := fa.chg x0
  obtain ⟨line0, hl0, rfl⟩ := mapAt hdR
  have lq0 := hw.hq line0 (List.mem_of_getElem? hl0)
  obtain ⟨R, us, eRx, eR, fb, mR⟩ : ∃ R us, xs[0] = .ref R ∧ H5 R = some (.lst us) ∧ us.length = q ∧ R ∈ A' := by
    generalize xs[0] = v at ftR
    have ftR' : Jv.Ft K H5 v (.list (line0.map entL)) B := ftR
    cases ftR' with
    | lst a b c =>
      have := b.len
      rw [List.length_map, lq0] at this
      exact ⟨_, _, rfl, a, this, subB _ List.mem_cons_self⟩
  rw [eRx] at x0
  have nRD : R ≠ D := fun z => nD (z ▸ mR)
  walk_at "r"
  refine Jv.Sk.ix (xs := xs) ⟨D, rfl, .inl (Jv.sqL_at eD)⟩ (Jv.at_i (k := 0) (by decide) x0) ?_
  walk_at "r"
  have eD' : upd H5 R (.lst (us.set 0 .non)) D = some (.lst xs) := by rw [upd_ne nRD.symm]; exact eD
  refine ⟨R, us, ((0 : Nat) : Int), 0, rfl, rfl, eR, Jv.ixN_of (by omega), ?_⟩
  walk_at "r"
  refine Jv.r_app eD' (by omega) ?_
  walk_at "r"
  have sH : Same (Jv.hide (D :: A') H5) (upd (upd H5 R (.lst (us.set 0 .non))) D (.lst (xs ++ [.int 3]))) := fun b o e => by
    obtain ⟨n, e2⟩ := Jv.hide_some e
    rw [upd_ne (fun z => n (by rw [z]; exact List.mem_cons_self)), upd_ne (fun z => n (by rw [z]; exact List.mem_cons_of_mem _ mR))]
    exact e2
  have s16 : Same H1 (upd (upd H5 R (.lst (us.set 0 .non))) D (.lst (xs ++ [.int 3]))) := fun b o e => by
    rw [upd_ne (ne_of_none e (fr D List.mem_cons_self)), upd_ne (ne_of_none e (fr R (List.mem_cons_of_mem _ mR)))]
    exact s15 b o e
  have ga6 := (ga5.hide held).same sH
  have dv6 := (dvT_hide held dv5).same sH
  have et6 := sH _ _ (Jv.hide_at (N := D :: A') (fun m => by obtain ⟨ys, e⟩ := held t m; rw [et5] at e; cases e) et5)
  have dT6 : Jv.Dv K (upd (upd H5 R (.lst (us.set 0 .non))) D (.lst (xs ++ [.int 3]))) (.ref t) (.tuple [.int l, linT L, .tuple [.int p, .int q]]) :=
    .tup (Jv.sqT_at et6) (.cons (.int _) (.cons ((dvT_hide held hW5).same sH) (.cons ((dv2_hide held hS5).same sH) .nil)))
  generalize upd (upd H5 R (.lst (us.set 0 .non))) D (.lst (xs ++ [.int 3])) = H6 at s16 ga6 dv6 dT6 ⊢
  have hh6 := hh1.same s16
  have hx6 := hx.same (Jv.hide_same (N := [h]) s16)
  have es6 := s16 _ _ es
  clear et6 eD' sH
  intro t8 ht8
  have n8 := Jv.same_new (u := .tup [.int l, .ref dA, .ref sA]) ht8
  have et8 : upd H6 t8 (.tup [.int l, .ref dA, .ref sA]) t8 = some (.tup [.int l, .ref dA, .ref sA]) := upd_same
  generalize upd H6 t8 (.tup [.int l, .ref dA, .ref sA]) = H7 at n8 et8 ⊢
  have ga7 := ga6.same n8
  have dv7 := dv6.same n8
  have es7 := n8 _ _ es6
  have hh7 := hh6.same n8
  have hx7 := hx6.same (Jv.hide_same (N := [h]) n8)
  walk_at "r"
  refine ne_self (dT6.same n8) (.tup (Jv.sqT_at et8) (.cons (.int _) (.cons dv7 (.cons (.tup (Jv.sqT_at es7) (.cons (.int _) (.cons (.int _) .nil))) .nil)))) (shaped_told _ _ _ _) ?_
  walk_at "r"
  obtain ⟨dx7, wv7, tv7, hca7, hW7, hS7⟩ := id ga7
  refine Jv.r_fld ?_
  walk_at "r"
  refine ⟨c, _, dx7, _, _, rfl, hca7, O.o_Costs, O.n_Costs_lines, rfl, ?_⟩
  walk_at "r"
  refine ne_self hW7 dv7 (shaped_lin _) ?_
  walk_at "r"
  refine Jv.r_fld ?_
  walk_at "r"
  refine ⟨c, _, dx7, _, _, rfl, hca7, O.o_Costs, O.n_Costs_ladder, rfl, ?_⟩
  walk_at "r"
  refine ⟨_, _, rfl, .int l, ?_⟩
  walk_at "r"
  refine Jv.Sk.ix (xs := [.int p, .int q]) ⟨sA, rfl, .inr (Jv.sqT_at es7)⟩ (v := .int p) rfl ?_
  walk_at "r"
  refine ⟨h, hl, _, rfl, hh7, ⟨by omega, Jv.log_small (by omega) (by omega)⟩, fun e0 H8 a0 a1 kp8 hh8 => ?_⟩
  obtain ⟨e, rfl⟩ : ∃ e : Nat, e0 = e := ⟨e0.toNat, by omega⟩
  have es8 := kp8 _ _ (hh7.neT es7) es7
  walk_at "r"
  refine Jv.Sk.ix (xs := [.int p, .int q]) ⟨sA, rfl, .inr (Jv.sqT_at es8)⟩ (v := .int q) rfl ?_
  walk_at "r"
  refine ⟨h, hl, _, rfl, hh8, ⟨by omega, Jv.log_small (by omega) (by omega)⟩, fun f0 H9 b0 b1 kp9 hh9 => ?_⟩
  obtain ⟨f, rfl⟩ : ∃ e : Nat, f0 = e := ⟨f0.toNat, by omega⟩
  walk_at "r"
  refine ⟨h, hl, _, rfl, hh9, ⟨by omega, Jv.log_small (by omega) (by omega)⟩, fun g0 H10 c0 c1 kp10 hh10 => ?_⟩
  obtain ⟨g, rfl⟩ : ∃ e : Nat, g0 = e := ⟨g0.toNat, by omega⟩
  have kp710 := kp8.trans (kp9.trans kp10)
  have hx10 := hx7.same kp710.hide
  have ga10 := (ga7.hide hh7.lst).same kp710.hide
  have dv10 := (dvT_hide hh7.lst dv7).same kp710.hide
  walk_at "r"
  refine ⟨x, L, rfl, hx10.same Jv.hide_le, hw.fl, fun D2 A2 H11 s11 ft2 fr2 => ?_⟩
  have hh11 := hh10.same s11
  walk_at "r"
  refine ⟨h, hl, _, rfl, hh11, ⟨by decide, Jv.log_small (by decide) (by decide)⟩, fun z H12 z0 z1 kp12 hh12 => ?_⟩
  have e6 : (10 : Int) ^ Int.toNat 6 = 1000000 := by decide
  rw [e6] at z1
  have nA2 : ∀ a ∈ A2, a ≠ h ∧ a ≠ hl := fun a m => hh10.ne2 (fr2 a m)
  have ft12 : Jv.Ft K H12 (.ref D2) (.list (L.map rowLL)) A2 := ft2.keep fun a m o e => kp12 a o (nA2 a m).1 e
  cases ft12 with
  | lst eD2 fa2 nD2 =>
  rename_i ys A3
  have lys := fa2.len
  rw [List.length_map, hw.hp] at lys
  have ye : ys[e]? = some ys[e] := List.getElem?_eq_getElem (by omega)
  obtain ⟨dR2, B2, hdR2, ftR2, subB2, chgD⟩ := fa2.chg ye
  obtain ⟨line, hline, rfl⟩ := mapAt hdR2
  have hlm := List.mem_of_getElem? hline
  have lq := hw.hq line hlm
  obtain ⟨R2, us2, B3, eRx2, eR2, fb2, nR2, rfl⟩ : ∃ R us B', ys[e] = .ref R ∧ H12 R = some (.lst us) ∧ Jv.FtAll K H12 us (line.map entL) B' ∧ R ∉ B' ∧ B2 = R :: B' := by
    generalize ys[e] = v at ftR2
    have ftR' : Jv.Ft K H12 v (.list (line.map entL)) B2 := ftR2
    cases ftR' with
    | lst a b c => exact ⟨_, _, _, rfl, a, b, c, rfl⟩
  have ye2 := ye
  rw [eRx2] at ye2
  have lus2 := fb2.len
  rw [List.length_map, lq] at lus2
  have uw : us2[f]? = some us2[f] := List.getElem?_eq_getElem (by omega)
  obtain ⟨dN, C2, hdN, ftN, subC, chgR⟩ := fb2.chg uw
  obtain ⟨ns, hns, rfl⟩ := mapAt hdN
  have hnm := List.mem_of_getElem? hns
  have lns := hw.len line hlm ns hnm
  obtain ⟨U, eUx, eU, eC⟩ : ∃ U, us2[f] = .ref U ∧ H12 U = some (.lst (ns.map V.int)) ∧ U ∈ C2 := by
    generalize us2[f] = v at ftN
    have ftN' : Jv.Ft K H12 v (.list (ns.map .int)) C2 := ftN
    cases ftN' with
    | lst a b c =>
      rw [Jv.dv_intsV b.dv] at a
      exact ⟨_, rfl, a, List.mem_cons_self⟩
  have uw2 := uw
  rw [eUx] at uw2
  have mU3 : U ∈ B3 := subC U eC
  have mU : U ∈ D2 :: A3 := List.mem_cons_of_mem _ (subB2 U (List.mem_cons_of_mem _ mU3))
  have nUh := nA2 U mU
  walk_at "r"
  refine Jv.Sk.ix (xs := ys) ⟨D2, rfl, .inl (Jv.sqL_at eD2)⟩ (Jv.at_i (by omega) (by rw [Int.toNat_natCast]; exact ye2)) ?_
  walk_at "r"
  refine Jv.Sk.ix (xs := us2) ⟨R2, rfl, .inl (Jv.sqL_at eR2)⟩ (Jv.at_i (by omega) (by rw [Int.toNat_natCast]; exact uw2)) ?_
  walk_at "r"
  refine ⟨U, ns.map V.int, g, g, rfl, rfl, eU, Jv.ixN_of (by rw [List.length_map]; omega), ?_⟩
  have w2 := hw.put (z := z) (g := g) hline hns ⟨by omega, by omega⟩
  have eSet : (ns.map V.int).set g (.int z) = (ns.set g z).map V.int := by rw [List.map_set]
  rw [eSet]
  have kp13 : Jv.Kp h H10 (upd H12 U (.lst ((ns.set g z).map V.int))) := fun b o nb e => by
    rw [upd_ne (ne_of_none e (fr2 U mU))]
    exact kp12 b o nb (s11 b o e)
  have hh13 : Jv.Hand (upd H12 U (.lst ((ns.set g z).map V.int))) h hl := hh12.upd nUh.1 nUh.2
  have row : Jv.DvAll K (upd H12 U (.lst ((ns.set g z).map V.int))) us2 ((line.set f (ns.set g z)).map entL) := by
    have h1 := chgR (.ref U) (entL (ns.set g z)) (upd H12 U (.lst ((ns.set g z).map V.int))) (fun a m nc o e => by rw [upd_ne (fun (zz : a = U) => nc (by rw [zz]; exact eC))]; exact e) (.lst upd_same (Jv.dv_ints _))
    rw [set_same uw2, ← List.map_set] at h1
    exact h1
  have dvO : Jv.Dv K (upd H12 U (.lst ((ns.set g z).map V.int))) (.ref D2) (linLL (L.set e (line.set f (ns.set g z)))) := by
    have nRU : R2 ≠ U := fun z => nR2 (z ▸ mU3)
    have nDU : D2 ≠ U := fun z => nD2 (z ▸ subB2 U (List.mem_cons_of_mem _ mU3))
    have h1 := chgD (.ref R2) (rowLL (line.set f (ns.set g z))) (upd H12 U (.lst ((ns.set g z).map V.int))) (fun a m nb o e => by rw [upd_ne (fun (zz : a = U) => nb (by rw [zz]; exact List.mem_cons_of_mem _ mU3))]; exact e) (.lst (by rw [upd_ne nRU]; exact eR2) row)
    rw [set_same ye2, ← List.map_set] at h1
    exact .lst (by rw [upd_ne nDU]; exact eD2) h1
  generalize upd H12 U (.lst ((ns.set g z).map V.int)) = H13 at kp13 hh13 dvO ⊢
  generalize L.set e (line.set f (ns.set g z)) = L2 at w2 dvO
  have hx13 := hx10.same kp13.hide
  have ga13 : CAt K H13 T.C_Costs c l (linT L) p q := (ga10.same kp13.hide).same Jv.hide_le
  have dv13 : Jv.Dv K H13 (.ref dA) (linT L) := (dv10.same kp13.hide).same Jv.hide_le
  walk_at "r"
  refine gen_make fun Q2 hQ2 => r_make0 ?_
  walk_at "r"
  refine mk_goodC (.int l) dvO (w2.good linesR_LL) fun c2 H14 s14 _ ga14 => hQ2 _ _ ?_
  have ga14' := ga13.same s14
  walk_at "r"
  obtain ⟨_, _, _, hc14, _⟩ := id ga14
  obtain ⟨_, _, _, hc14', _⟩ := id ga14'
  refine ⟨c2, _, _, c, rfl, rfl, hc14, .inl ⟨_, _, hc14'⟩, c2, c, l, L2, p, q, rfl, ga14, .inl ⟨l, L, p, q, ga14', _, rfl, ?_⟩⟩
  walk_at "r"
  refine ⟨.ref D2, L2, rfl, dvO.same s14, w2.fl, fun r15 H15 s15 dv15 => ?_⟩
  have s1315 := s14.trans s15
  walk_at "r"
  refine ⟨_, _, dv15.dp, (dv13.same s1315).dp, shaped_lin _, shaped_lin _, ?_⟩
  rw [eqv_lin]
  have e15 : decide (l = l ∧ L2 = L) = decide (L2 = L) := by simp
  rw [e15]
  walk_at "r"
  rw [decide_eq_true rfl]
  walk_at "r"
  -- costs of the same lines
  have ga15 := ga13.same s1315
  have dvd15 := dv13.same s1315
  refine gen_make fun Q3 hQ3 => r_make0 ?_
  walk_at "r"
  refine mk_goodC (.int l) dvd15 (hw.good linesR_T) fun c3 H16 s16 _ ga16 => hQ3 _ _ ?_
  have ga16' := ga15.same s16
  have dvd16 := dvd15.same s16
  obtain ⟨_, _, _, hc16, _⟩ := id ga16
  obtain ⟨_, _, _, hc16', _⟩ := id ga16'
  walk_at "r"
  refine ⟨c, _, _, c3, rfl, rfl, hc16', .inl ⟨_, _, hc16⟩, c, c3, l, L, p, q, rfl, ga16', .inl ⟨l, L, p, q, ga16, _, rfl, ?_⟩⟩
  rw [decide_eq_true (⟨rfl, rfl⟩ : l = l ∧ L = L)]
  walk_at "r"
  obtain ⟨zs, hzs⟩ : ∃ zs, SqT K H16 dA zs := by
    cases dvd16 with
    | tup e q => exact ⟨_, e⟩
  refine ⟨c, _, _, dA, rfl, rfl, hc16', .inr ⟨zs, hzs⟩, c, dA, l, L, p, q, rfl, ga16', .inr ⟨zs, hzs, _, rfl, ?_⟩⟩
  walk_at "r"
  have s1316 := s1315.trans s16
  have hh16 := hh13.same s1316
  have hx16 := hx13.same (Jv.hide_same (N := [h]) s1316)
  refine ⟨h, hl, x, l, L, p, q, rfl, hh16, hx16, hw, fun H17 kp17 hh17 => ?_⟩
  walk_at "r"
  exact ⟨h, hl, c, x, l, L, p, q, rfl, hh17, (ga16'.hide hh16.lst).same kp17.hide, hx16.same kp17.hide, hw, fun H18 _ _ => k H18⟩
end
end K49

namespace K49
open PySem PySem.Spec PyProof.Rows L2
/-! ### the law -/
def sp_law (K : PySem.W.Frag) : Sp := fun vs H Q _ => ∃ (a : Addr) (ns : List Int), vs = [.ref a] ∧ SqL K H a (ns.map V.int) ∧ ns.length ≤ 63 ∧ ∀ H', Q (.bl true) H'
section
variable {P : Program} {w : World} {K : PySem.W.Frag} {mg : Str → Option Value} {base : Heap}
theorem ok_law (T : Tx) (O : Ok K mg T) : FnOk P w K mg base CX0 10 T.f_law T.d_law ["_law_script"] (sp_law K) := by
  refine O.F_law.ok sc_law (fun vs H Q E h => by obtain ⟨_, _, rfl, _⟩ := h; rfl) (fun cdv A outer s H vs Q E hr h => ?_)
  obtain ⟨a, ns, rfl, hS, few, k⟩ := h
  refine ⟨_, (pss_one (ps_ret (pe_call (ok_Lcase T O) (hr.mono (by decide)) (by rfl) O.m_Lcase O.F_Lcase.kp O.b_Lcase .nil pass0 (pa_cons (pe_call (ok_Lhand T O) (hr.mono (by decide)) (by rfl) O.m_Lhand O.F_Lhand.kp O.b_Lhand .nil pass0 (pa_cons (pv 0) pa_nil)) pa_nil)))), ?_⟩
  walk_at "r"
  refine ⟨a, ns, rfl, hS, few, fun p hl H1 s1 fp hh => ?_⟩
  walk_at "r"
  exact ⟨p, hl, rfl, hh, k⟩
end
end K49

namespace K49
open PySem PySem.Spec PyProof.Rows L2
theorem all_mk {P : Program} {w : World} {fa : Addr} {K : PySem.W.Frag} {h : Heap} {mg : Str → Option Value} (X : K.In h) (G : h.Ns mainGlobals mg) (hfa : mg "law" = some (.ref fa))
  {C_CallError : Addr}
  {C_BadLot : Addr}
  {C_BadSide : Addr}
  {C_BadCosts : Addr}
  {C_Costs : Addr}
  {f_BadLotu_initu : Addr} {od_BadLotu_initu an_BadLotu_initu : Option Addr} {sl_BadLotu_initu : Array (Option Value)} {oc_BadLotu_initu kV_BadLotu_initu dc_BadLotu_initu pm_BadLotu_initu cd_BadLotu_initu ct_BadLotu_initu : Value}
  {f_BadCostsu_initu : Addr} {od_BadCostsu_initu an_BadCostsu_initu : Option Addr} {sl_BadCostsu_initu : Array (Option Value)} {oc_BadCostsu_initu kV_BadCostsu_initu dc_BadCostsu_initu pm_BadCostsu_initu cd_BadCostsu_initu ct_BadCostsu_initu : Value}
  {f_is_whole : Addr} {od_is_whole an_is_whole : Option Addr} {sl_is_whole : Array (Option Value)} {oc_is_whole kV_is_whole dc_is_whole pm_is_whole cd_is_whole ct_is_whole : Value}
  {q_is_whole : Addr} {qc_is_whole : Value} {qd_is_whole : Option Addr} {qs_is_whole : Array (Option Value)} {qn_is_whole : Nat}
  {f_is_sequence : Addr} {od_is_sequence an_is_sequence : Option Addr} {sl_is_sequence : Array (Option Value)} {oc_is_sequence kV_is_sequence dc_is_sequence pm_is_sequence cd_is_sequence ct_is_sequence : Value}
  {f_check_side : Addr} {od_check_side an_check_side : Option Addr} {sl_check_side : Array (Option Value)} {oc_check_side kV_check_side dc_check_side pm_check_side cd_check_side ct_check_side : Value}
  {f_are_sides : Addr} {od_are_sides an_are_sides : Option Addr} {sl_are_sides : Array (Option Value)} {oc_are_sides kV_are_sides dc_are_sides pm_are_sides cd_are_sides ct_are_sides : Value}
  {f_are_kinds : Addr} {od_are_kinds an_are_kinds : Option Addr} {sl_are_kinds : Array (Option Value)} {oc_are_kinds kV_are_kinds dc_are_kinds pm_are_kinds cd_are_kinds ct_are_kinds : Value}
  {f_is_order : Addr} {od_is_order an_is_order : Option Addr} {sl_is_order : Array (Option Value)} {oc_is_order kV_is_order dc_is_order pm_is_order cd_is_order ct_is_order : Value}
  {f_check_side_order : Addr} {od_check_side_order an_check_side_order : Option Addr} {sl_check_side_order : Array (Option Value)} {oc_check_side_order kV_check_side_order dc_check_side_order pm_check_side_order cd_check_side_order ct_check_side_order : Value}
  {f_sides_of_lines : Addr} {od_sides_of_lines an_sides_of_lines : Option Addr} {sl_sides_of_lines : Array (Option Value)} {oc_sides_of_lines kV_sides_of_lines dc_sides_of_lines pm_sides_of_lines cd_sides_of_lines ct_sides_of_lines : Value}
  {f_renumbered_lines : Addr} {od_renumbered_lines an_renumbered_lines : Option Addr} {sl_renumbered_lines : Array (Option Value)} {oc_renumbered_lines kV_renumbered_lines dc_renumbered_lines pm_renumbered_lines cd_renumbered_lines ct_renumbered_lines : Value}
  {f_is_entry : Addr} {od_is_entry an_is_entry : Option Addr} {sl_is_entry : Array (Option Value)} {oc_is_entry kV_is_entry dc_is_entry pm_is_entry cd_is_entry ct_is_entry : Value}
  {f_Costsu_initu : Addr} {od_Costsu_initu an_Costsu_initu : Option Addr} {sl_Costsu_initu : Array (Option Value)} {oc_Costsu_initu kV_Costsu_initu dc_Costsu_initu pm_Costsu_initu cd_Costsu_initu ct_Costsu_initu : Value}
  {f_Costsu_equ : Addr} {od_Costsu_equ an_Costsu_equ : Option Addr} {sl_Costsu_equ : Array (Option Value)} {oc_Costsu_equ kV_Costsu_equ dc_Costsu_equ pm_Costsu_equ cd_Costsu_equ ct_Costsu_equ : Value}
  {f_Costs_cut : Addr} {od_Costs_cut an_Costs_cut : Option Addr} {sl_Costs_cut : Array (Option Value)} {oc_Costs_cut kV_Costs_cut dc_Costs_cut pm_Costs_cut cd_Costs_cut ct_Costs_cut : Value}
  {f_Costs_added : Addr} {od_Costs_added an_Costs_added : Option Addr} {sl_Costs_added : Array (Option Value)} {oc_Costs_added kV_Costs_added dc_Costs_added pm_Costs_added cd_Costs_added ct_Costs_added : Value}
  {f_Costs_renumbered : Addr} {od_Costs_renumbered an_Costs_renumbered : Option Addr} {sl_Costs_renumbered : Array (Option Value)} {oc_Costs_renumbered kV_Costs_renumbered dc_Costs_renumbered pm_Costs_renumbered cd_Costs_renumbered ct_Costs_renumbered : Value}
  {f_Lmix : Addr} {od_Lmix an_Lmix : Option Addr} {sl_Lmix : Array (Option Value)} {oc_Lmix kV_Lmix dc_Lmix pm_Lmix cd_Lmix ct_Lmix : Value}
  {f_Lhand : Addr} {od_Lhand an_Lhand : Option Addr} {sl_Lhand : Array (Option Value)} {oc_Lhand kV_Lhand dc_Lhand pm_Lhand cd_Lhand ct_Lhand : Value}
  {f_Ldraw : Addr} {od_Ldraw an_Ldraw : Option Addr} {sl_Ldraw : Array (Option Value)} {oc_Ldraw kV_Ldraw dc_Ldraw pm_Ldraw cd_Ldraw ct_Ldraw : Value}
  {f_Lwhole : Addr} {od_Lwhole an_Lwhole : Option Addr} {sl_Lwhole : Array (Option Value)} {oc_Lwhole kV_Lwhole dc_Lwhole pm_Lwhole cd_Lwhole ct_Lwhole : Value}
  {f_Ldrawn : Addr} {od_Ldrawn an_Ldrawn : Option Addr} {sl_Ldrawn : Array (Option Value)} {oc_Ldrawn kV_Ldrawn dc_Ldrawn pm_Ldrawn cd_Ldrawn ct_Ldrawn : Value}
  {f_Ltuples : Addr} {od_Ltuples an_Ltuples : Option Addr} {sl_Ltuples : Array (Option Value)} {oc_Ltuples kV_Ltuples dc_Ltuples pm_Ltuples cd_Ltuples ct_Ltuples : Value}
  {f_Llists : Addr} {od_Llists an_Llists : Option Addr} {sl_Llists : Array (Option Value)} {oc_Llists kV_Llists dc_Llists pm_Llists cd_Llists ct_Llists : Value}
  {f_Ldue : Addr} {od_Ldue an_Ldue : Option Addr} {sl_Ldue : Array (Option Value)} {oc_Ldue kV_Ldue dc_Ldue pm_Ldue cd_Ldue ct_Ldue : Value}
  {f_Lmade : Addr} {od_Lmade an_Lmade : Option Addr} {sl_Lmade : Array (Option Value)} {oc_Lmade kV_Lmade dc_Lmade pm_Lmade cd_Lmade ct_Lmade : Value}
  {f_Lspoil_entry : Addr} {od_Lspoil_entry an_Lspoil_entry : Option Addr} {sl_Lspoil_entry : Array (Option Value)} {oc_Lspoil_entry kV_Lspoil_entry dc_Lspoil_entry pm_Lspoil_entry cd_Lspoil_entry ct_Lspoil_entry : Value}
  {f_Lspoil_lines : Addr} {od_Lspoil_lines an_Lspoil_lines : Option Addr} {sl_Lspoil_lines : Array (Option Value)} {oc_Lspoil_lines kV_Lspoil_lines dc_Lspoil_lines pm_Lspoil_lines cd_Lspoil_lines ct_Lspoil_lines : Value}
  {f_Lrefused : Addr} {od_Lrefused an_Lrefused : Option Addr} {sl_Lrefused : Array (Option Value)} {oc_Lrefused kV_Lrefused dc_Lrefused pm_Lrefused cd_Lrefused ct_Lrefused : Value}
  {f_Lcut : Addr} {od_Lcut an_Lcut : Option Addr} {sl_Lcut : Array (Option Value)} {oc_Lcut kV_Lcut dc_Lcut pm_Lcut cd_Lcut ct_Lcut : Value}
  {f_Ladded : Addr} {od_Ladded an_Ladded : Option Addr} {sl_Ladded : Array (Option Value)} {oc_Ladded kV_Ladded dc_Ladded pm_Ladded cd_Ladded ct_Ladded : Value}
  {f_Ladded_due : Addr} {od_Ladded_due an_Ladded_due : Option Addr} {sl_Ladded_due : Array (Option Value)} {oc_Ladded_due kV_Ladded_due dc_Ladded_due pm_Ladded_due cd_Ladded_due ct_Ladded_due : Value}
  {f_Lorder : Addr} {od_Lorder an_Lorder : Option Addr} {sl_Lorder : Array (Option Value)} {oc_Lorder kV_Lorder dc_Lorder pm_Lorder cd_Lorder ct_Lorder : Value}
  {f_Lis_order : Addr} {od_Lis_order an_Lis_order : Option Addr} {sl_Lis_order : Array (Option Value)} {oc_Lis_order kV_Lis_order dc_Lis_order pm_Lis_order cd_Lis_order ct_Lis_order : Value}
  {f_Lrenumbered : Addr} {od_Lrenumbered an_Lrenumbered : Option Addr} {sl_Lrenumbered : Array (Option Value)} {oc_Lrenumbered kV_Lrenumbered dc_Lrenumbered pm_Lrenumbered cd_Lrenumbered ct_Lrenumbered : Value}
  {f_Lrenumbered_due : Addr} {od_Lrenumbered_due an_Lrenumbered_due : Option Addr} {sl_Lrenumbered_due : Array (Option Value)} {oc_Lrenumbered_due kV_Lrenumbered_due dc_Lrenumbered_due pm_Lrenumbered_due cd_Lrenumbered_due ct_Lrenumbered_due : Value}
  {f_Lturned : Addr} {od_Lturned an_Lturned : Option Addr} {sl_Lturned : Array (Option Value)} {oc_Lturned kV_Lturned dc_Lturned pm_Lturned cd_Lturned ct_Lturned : Value}
  {f_Lcase : Addr} {od_Lcase an_Lcase : Option Addr} {sl_Lcase : Array (Option Value)} {oc_Lcase kV_Lcase dc_Lcase pm_Lcase cd_Lcase ct_Lcase : Value}
  {f_law : Addr} {od_law an_law : Option Addr} {sl_law : Array (Option Value)} {oc_law kV_law dc_law pm_law cd_law ct_law : Value}
  {nm_BadLot qn_BadLot : Str} {N_BadLot : Addr} {bs_BadLot : List Value} {sn_BadLot : List Str} {sb_BadLot : List Value} {ab_BadLot : Bool} {co_BadLot : Option Bool} {dd_BadLot : Option Addr} {m0_BadLot m1_BadLot m2_BadLot m3_BadLot m5_BadLot : Option Value}
  {nm_BadCosts qn_BadCosts : Str} {N_BadCosts : Addr} {bs_BadCosts : List Value} {sn_BadCosts : List Str} {sb_BadCosts : List Value} {ab_BadCosts : Bool} {co_BadCosts : Option Bool} {dd_BadCosts : Option Addr} {m0_BadCosts m1_BadCosts m2_BadCosts m3_BadCosts m5_BadCosts : Option Value}
  {t_EAST : Tok}
  {t_WEST : Tok}
  {t_LADDER_MOST : Tok}
  {t_KINDS_MOST : Tok}
  {t_COUPLES_MOST : Tok}
  {t_COST_MOST : Tok}
  (a_CallError : PySem.W.nsIn K mainGlobals "CallError" = some (some (.ref C_CallError)))
  (a_BadLot : PySem.W.nsIn K mainGlobals "BadLot" = some (some (.ref C_BadLot)))
  (a_BadSide : PySem.W.nsIn K mainGlobals "BadSide" = some (some (.ref C_BadSide)))
  (a_BadCosts : PySem.W.nsIn K mainGlobals "BadCosts" = some (some (.ref C_BadCosts)))
  (a_Costs : PySem.W.nsIn K mainGlobals "Costs" = some (some (.ref C_Costs)))
  (a_BadLotu_initu : PySem.W.findIn K (.ref C_BadLot) "__init__" = some (some (.ref f_BadLotu_initu)))
  (l_BadLotu_initu : K.lookup f_BadLotu_initu = some ⟨oc_BadLotu_initu, od_BadLotu_initu, .func (PySem.W.fnOf "__init__" "BadLot.__init__" (defArgs s_BadLotu_initu) (defBody s_BadLotu_initu) (defScope s_BadLotu_initu) .none kV_BadLotu_initu dc_BadLotu_initu pm_BadLotu_initu an_BadLotu_initu cd_BadLotu_initu ct_BadLotu_initu), sl_BadLotu_initu⟩)
  (c_BadLotu_initu : PySem.W.codeIn K cd_BadLotu_initu "BadLot.__init__" = true)
  (k_BadLotu_initu : PySem.W.keepIn K (.ref f_BadLotu_initu) = true)
  (a_BadCostsu_initu : PySem.W.findIn K (.ref C_BadCosts) "__init__" = some (some (.ref f_BadCostsu_initu)))
  (l_BadCostsu_initu : K.lookup f_BadCostsu_initu = some ⟨oc_BadCostsu_initu, od_BadCostsu_initu, .func (PySem.W.fnOf "__init__" "BadCosts.__init__" (defArgs s_BadCostsu_initu) (defBody s_BadCostsu_initu) (defScope s_BadCostsu_initu) .none kV_BadCostsu_initu dc_BadCostsu_initu pm_BadCostsu_initu an_BadCostsu_initu cd_BadCostsu_initu ct_BadCostsu_initu), sl_BadCostsu_initu⟩)
  (c_BadCostsu_initu : PySem.W.codeIn K cd_BadCostsu_initu "BadCosts.__init__" = true)
  (k_BadCostsu_initu : PySem.W.keepIn K (.ref f_BadCostsu_initu) = true)
  (a_is_whole : PySem.W.nsIn K mainGlobals "is_whole" = some (some (.ref f_is_whole)))
  (l_is_whole : K.lookup f_is_whole = some ⟨oc_is_whole, od_is_whole, .func (PySem.W.fnOf "is_whole" "is_whole" (defArgs s_is_whole) (defBody s_is_whole) (defScope s_is_whole) (.ref q_is_whole) kV_is_whole dc_is_whole pm_is_whole an_is_whole cd_is_whole ct_is_whole), sl_is_whole⟩)
  (c_is_whole : PySem.W.codeIn K cd_is_whole "is_whole" = true)
  (k_is_whole : PySem.W.keepIn K (.ref f_is_whole) = true)
  (t_is_whole : K.lookup q_is_whole = some ⟨qc_is_whole, qd_is_whole, .seq #[Value.none, Value.none] qn_is_whole, qs_is_whole⟩)
  (a_is_sequence : PySem.W.nsIn K mainGlobals "is_sequence" = some (some (.ref f_is_sequence)))
  (l_is_sequence : K.lookup f_is_sequence = some ⟨oc_is_sequence, od_is_sequence, .func (PySem.W.fnOf "is_sequence" "is_sequence" (defArgs s_is_sequence) (defBody s_is_sequence) (defScope s_is_sequence) .none kV_is_sequence dc_is_sequence pm_is_sequence an_is_sequence cd_is_sequence ct_is_sequence), sl_is_sequence⟩)
  (c_is_sequence : PySem.W.codeIn K cd_is_sequence "is_sequence" = true)
  (k_is_sequence : PySem.W.keepIn K (.ref f_is_sequence) = true)
  (a_check_side : PySem.W.nsIn K mainGlobals "check_side" = some (some (.ref f_check_side)))
  (l_check_side : K.lookup f_check_side = some ⟨oc_check_side, od_check_side, .func (PySem.W.fnOf "check_side" "check_side" (defArgs s_check_side) (defBody s_check_side) (defScope s_check_side) .none kV_check_side dc_check_side pm_check_side an_check_side cd_check_side ct_check_side), sl_check_side⟩)
  (c_check_side : PySem.W.codeIn K cd_check_side "check_side" = true)
  (k_check_side : PySem.W.keepIn K (.ref f_check_side) = true)
  (a_are_sides : PySem.W.nsIn K mainGlobals "are_sides" = some (some (.ref f_are_sides)))
  (l_are_sides : K.lookup f_are_sides = some ⟨oc_are_sides, od_are_sides, .func (PySem.W.fnOf "are_sides" "are_sides" (defArgs s_are_sides) (defBody s_are_sides) (defScope s_are_sides) .none kV_are_sides dc_are_sides pm_are_sides an_are_sides cd_are_sides ct_are_sides), sl_are_sides⟩)
  (c_are_sides : PySem.W.codeIn K cd_are_sides "are_sides" = true)
  (k_are_sides : PySem.W.keepIn K (.ref f_are_sides) = true)
  (a_are_kinds : PySem.W.nsIn K mainGlobals "are_kinds" = some (some (.ref f_are_kinds)))
  (l_are_kinds : K.lookup f_are_kinds = some ⟨oc_are_kinds, od_are_kinds, .func (PySem.W.fnOf "are_kinds" "are_kinds" (defArgs s_are_kinds) (defBody s_are_kinds) (defScope s_are_kinds) .none kV_are_kinds dc_are_kinds pm_are_kinds an_are_kinds cd_are_kinds ct_are_kinds), sl_are_kinds⟩)
  (c_are_kinds : PySem.W.codeIn K cd_are_kinds "are_kinds" = true)
  (k_are_kinds : PySem.W.keepIn K (.ref f_are_kinds) = true)
  (a_is_order : PySem.W.nsIn K mainGlobals "is_order" = some (some (.ref f_is_order)))
  (l_is_order : K.lookup f_is_order = some ⟨oc_is_order, od_is_order, .func (PySem.W.fnOf "is_order" "is_order" (defArgs s_is_order) (defBody s_is_order) (defScope s_is_order) .none kV_is_order dc_is_order pm_is_order an_is_order cd_is_order ct_is_order), sl_is_order⟩)
  (c_is_order : PySem.W.codeIn K cd_is_order "is_order" = true)
  (k_is_order : PySem.W.keepIn K (.ref f_is_order) = true)
  (a_check_side_order : PySem.W.nsIn K mainGlobals "check_side_order" = some (some (.ref f_check_side_order)))
  (l_check_side_order : K.lookup f_check_side_order = some ⟨oc_check_side_order, od_check_side_order, .func (PySem.W.fnOf "check_side_order" "check_side_order" (defArgs s_check_side_order) (defBody s_check_side_order) (defScope s_check_side_order) .none kV_check_side_order dc_check_side_order pm_check_side_order an_check_side_order cd_check_side_order ct_check_side_order), sl_check_side_order⟩)
  (c_check_side_order : PySem.W.codeIn K cd_check_side_order "check_side_order" = true)
  (k_check_side_order : PySem.W.keepIn K (.ref f_check_side_order) = true)
  (a_sides_of_lines : PySem.W.nsIn K mainGlobals "sides_of_lines" = some (some (.ref f_sides_of_lines)))
  (l_sides_of_lines : K.lookup f_sides_of_lines = some ⟨oc_sides_of_lines, od_sides_of_lines, .func (PySem.W.fnOf "sides_of_lines" "sides_of_lines" (defArgs s_sides_of_lines) (defBody s_sides_of_lines) (defScope s_sides_of_lines) .none kV_sides_of_lines dc_sides_of_lines pm_sides_of_lines an_sides_of_lines cd_sides_of_lines ct_sides_of_lines), sl_sides_of_lines⟩)
  (c_sides_of_lines : PySem.W.codeIn K cd_sides_of_lines "sides_of_lines" = true)
  (k_sides_of_lines : PySem.W.keepIn K (.ref f_sides_of_lines) = true)
  (a_renumbered_lines : PySem.W.nsIn K mainGlobals "renumbered_lines" = some (some (.ref f_renumbered_lines)))
  (l_renumbered_lines : K.lookup f_renumbered_lines = some ⟨oc_renumbered_lines, od_renumbered_lines, .func (PySem.W.fnOf "renumbered_lines" "renumbered_lines" (defArgs s_renumbered_lines) (defBody s_renumbered_lines) (defScope s_renumbered_lines) .none kV_renumbered_lines dc_renumbered_lines pm_renumbered_lines an_renumbered_lines cd_renumbered_lines ct_renumbered_lines), sl_renumbered_lines⟩)
  (c_renumbered_lines : PySem.W.codeIn K cd_renumbered_lines "renumbered_lines" = true)
  (k_renumbered_lines : PySem.W.keepIn K (.ref f_renumbered_lines) = true)
  (a_is_entry : PySem.W.nsIn K mainGlobals "is_entry" = some (some (.ref f_is_entry)))
  (l_is_entry : K.lookup f_is_entry = some ⟨oc_is_entry, od_is_entry, .func (PySem.W.fnOf "is_entry" "is_entry" (defArgs s_is_entry) (defBody s_is_entry) (defScope s_is_entry) .none kV_is_entry dc_is_entry pm_is_entry an_is_entry cd_is_entry ct_is_entry), sl_is_entry⟩)
  (c_is_entry : PySem.W.codeIn K cd_is_entry "is_entry" = true)
  (k_is_entry : PySem.W.keepIn K (.ref f_is_entry) = true)
  (a_Costsu_initu : PySem.W.findIn K (.ref C_Costs) "__init__" = some (some (.ref f_Costsu_initu)))
  (l_Costsu_initu : K.lookup f_Costsu_initu = some ⟨oc_Costsu_initu, od_Costsu_initu, .func (PySem.W.fnOf "__init__" "Costs.__init__" (defArgs s_Costsu_initu) (defBody s_Costsu_initu) (defScope s_Costsu_initu) .none kV_Costsu_initu dc_Costsu_initu pm_Costsu_initu an_Costsu_initu cd_Costsu_initu ct_Costsu_initu), sl_Costsu_initu⟩)
  (c_Costsu_initu : PySem.W.codeIn K cd_Costsu_initu "Costs.__init__" = true)
  (k_Costsu_initu : PySem.W.keepIn K (.ref f_Costsu_initu) = true)
  (a_Costsu_equ : PySem.W.findIn K (.ref C_Costs) "__eq__" = some (some (.ref f_Costsu_equ)))
  (l_Costsu_equ : K.lookup f_Costsu_equ = some ⟨oc_Costsu_equ, od_Costsu_equ, .func (PySem.W.fnOf "__eq__" "Costs.__eq__" (defArgs s_Costsu_equ) (defBody s_Costsu_equ) (defScope s_Costsu_equ) .none kV_Costsu_equ dc_Costsu_equ pm_Costsu_equ an_Costsu_equ cd_Costsu_equ ct_Costsu_equ), sl_Costsu_equ⟩)
  (c_Costsu_equ : PySem.W.codeIn K cd_Costsu_equ "Costs.__eq__" = true)
  (k_Costsu_equ : PySem.W.keepIn K (.ref f_Costsu_equ) = true)
  (a_Costs_cut : PySem.W.findIn K (.ref C_Costs) "cut" = some (some (.ref f_Costs_cut)))
  (l_Costs_cut : K.lookup f_Costs_cut = some ⟨oc_Costs_cut, od_Costs_cut, .func (PySem.W.fnOf "cut" "Costs.cut" (defArgs s_Costs_cut) (defBody s_Costs_cut) (defScope s_Costs_cut) .none kV_Costs_cut dc_Costs_cut pm_Costs_cut an_Costs_cut cd_Costs_cut ct_Costs_cut), sl_Costs_cut⟩)
  (c_Costs_cut : PySem.W.codeIn K cd_Costs_cut "Costs.cut" = true)
  (k_Costs_cut : PySem.W.keepIn K (.ref f_Costs_cut) = true)
  (a_Costs_added : PySem.W.findIn K (.ref C_Costs) "added" = some (some (.ref f_Costs_added)))
  (l_Costs_added : K.lookup f_Costs_added = some ⟨oc_Costs_added, od_Costs_added, .func (PySem.W.fnOf "added" "Costs.added" (defArgs s_Costs_added) (defBody s_Costs_added) (defScope s_Costs_added) .none kV_Costs_added dc_Costs_added pm_Costs_added an_Costs_added cd_Costs_added ct_Costs_added), sl_Costs_added⟩)
  (c_Costs_added : PySem.W.codeIn K cd_Costs_added "Costs.added" = true)
  (k_Costs_added : PySem.W.keepIn K (.ref f_Costs_added) = true)
  (a_Costs_renumbered : PySem.W.findIn K (.ref C_Costs) "renumbered" = some (some (.ref f_Costs_renumbered)))
  (l_Costs_renumbered : K.lookup f_Costs_renumbered = some ⟨oc_Costs_renumbered, od_Costs_renumbered, .func (PySem.W.fnOf "renumbered" "Costs.renumbered" (defArgs s_Costs_renumbered) (defBody s_Costs_renumbered) (defScope s_Costs_renumbered) .none kV_Costs_renumbered dc_Costs_renumbered pm_Costs_renumbered an_Costs_renumbered cd_Costs_renumbered ct_Costs_renumbered), sl_Costs_renumbered⟩)
  (c_Costs_renumbered : PySem.W.codeIn K cd_Costs_renumbered "Costs.renumbered" = true)
  (k_Costs_renumbered : PySem.W.keepIn K (.ref f_Costs_renumbered) = true)
  (a_Lmix : PySem.W.nsIn K mainGlobals "_law_mix" = some (some (.ref f_Lmix)))
  (l_Lmix : K.lookup f_Lmix = some ⟨oc_Lmix, od_Lmix, .func (PySem.W.fnOf "_law_mix" "_law_mix" (defArgs s_Lmix) (defBody s_Lmix) (defScope s_Lmix) .none kV_Lmix dc_Lmix pm_Lmix an_Lmix cd_Lmix ct_Lmix), sl_Lmix⟩)
  (c_Lmix : PySem.W.codeIn K cd_Lmix "_law_mix" = true)
  (k_Lmix : PySem.W.keepIn K (.ref f_Lmix) = true)
  (a_Lhand : PySem.W.nsIn K mainGlobals "_law_hand" = some (some (.ref f_Lhand)))
  (l_Lhand : K.lookup f_Lhand = some ⟨oc_Lhand, od_Lhand, .func (PySem.W.fnOf "_law_hand" "_law_hand" (defArgs s_Lhand) (defBody s_Lhand) (defScope s_Lhand) .none kV_Lhand dc_Lhand pm_Lhand an_Lhand cd_Lhand ct_Lhand), sl_Lhand⟩)
  (c_Lhand : PySem.W.codeIn K cd_Lhand "_law_hand" = true)
  (k_Lhand : PySem.W.keepIn K (.ref f_Lhand) = true)
  (a_Ldraw : PySem.W.nsIn K mainGlobals "_law_draw" = some (some (.ref f_Ldraw)))
  (l_Ldraw : K.lookup f_Ldraw = some ⟨oc_Ldraw, od_Ldraw, .func (PySem.W.fnOf "_law_draw" "_law_draw" (defArgs s_Ldraw) (defBody s_Ldraw) (defScope s_Ldraw) .none kV_Ldraw dc_Ldraw pm_Ldraw an_Ldraw cd_Ldraw ct_Ldraw), sl_Ldraw⟩)
  (c_Ldraw : PySem.W.codeIn K cd_Ldraw "_law_draw" = true)
  (k_Ldraw : PySem.W.keepIn K (.ref f_Ldraw) = true)
  (a_Lwhole : PySem.W.nsIn K mainGlobals "_law_whole" = some (some (.ref f_Lwhole)))
  (l_Lwhole : K.lookup f_Lwhole = some ⟨oc_Lwhole, od_Lwhole, .func (PySem.W.fnOf "_law_whole" "_law_whole" (defArgs s_Lwhole) (defBody s_Lwhole) (defScope s_Lwhole) .none kV_Lwhole dc_Lwhole pm_Lwhole an_Lwhole cd_Lwhole ct_Lwhole), sl_Lwhole⟩)
  (c_Lwhole : PySem.W.codeIn K cd_Lwhole "_law_whole" = true)
  (k_Lwhole : PySem.W.keepIn K (.ref f_Lwhole) = true)
  (a_Ldrawn : PySem.W.nsIn K mainGlobals "_law_drawn" = some (some (.ref f_Ldrawn)))
  (l_Ldrawn : K.lookup f_Ldrawn = some ⟨oc_Ldrawn, od_Ldrawn, .func (PySem.W.fnOf "_law_drawn" "_law_drawn" (defArgs s_Ldrawn) (defBody s_Ldrawn) (defScope s_Ldrawn) .none kV_Ldrawn dc_Ldrawn pm_Ldrawn an_Ldrawn cd_Ldrawn ct_Ldrawn), sl_Ldrawn⟩)
  (c_Ldrawn : PySem.W.codeIn K cd_Ldrawn "_law_drawn" = true)
  (k_Ldrawn : PySem.W.keepIn K (.ref f_Ldrawn) = true)
  (a_Ltuples : PySem.W.nsIn K mainGlobals "_law_tuples" = some (some (.ref f_Ltuples)))
  (l_Ltuples : K.lookup f_Ltuples = some ⟨oc_Ltuples, od_Ltuples, .func (PySem.W.fnOf "_law_tuples" "_law_tuples" (defArgs s_Ltuples) (defBody s_Ltuples) (defScope s_Ltuples) .none kV_Ltuples dc_Ltuples pm_Ltuples an_Ltuples cd_Ltuples ct_Ltuples), sl_Ltuples⟩)
  (c_Ltuples : PySem.W.codeIn K cd_Ltuples "_law_tuples" = true)
  (k_Ltuples : PySem.W.keepIn K (.ref f_Ltuples) = true)
  (a_Llists : PySem.W.nsIn K mainGlobals "_law_lists" = some (some (.ref f_Llists)))
  (l_Llists : K.lookup f_Llists = some ⟨oc_Llists, od_Llists, .func (PySem.W.fnOf "_law_lists" "_law_lists" (defArgs s_Llists) (defBody s_Llists) (defScope s_Llists) .none kV_Llists dc_Llists pm_Llists an_Llists cd_Llists ct_Llists), sl_Llists⟩)
  (c_Llists : PySem.W.codeIn K cd_Llists "_law_lists" = true)
  (k_Llists : PySem.W.keepIn K (.ref f_Llists) = true)
  (a_Ldue : PySem.W.nsIn K mainGlobals "_law_due" = some (some (.ref f_Ldue)))
  (l_Ldue : K.lookup f_Ldue = some ⟨oc_Ldue, od_Ldue, .func (PySem.W.fnOf "_law_due" "_law_due" (defArgs s_Ldue) (defBody s_Ldue) (defScope s_Ldue) .none kV_Ldue dc_Ldue pm_Ldue an_Ldue cd_Ldue ct_Ldue), sl_Ldue⟩)
  (c_Ldue : PySem.W.codeIn K cd_Ldue "_law_due" = true)
  (k_Ldue : PySem.W.keepIn K (.ref f_Ldue) = true)
  (a_Lmade : PySem.W.nsIn K mainGlobals "_law_made" = some (some (.ref f_Lmade)))
  (l_Lmade : K.lookup f_Lmade = some ⟨oc_Lmade, od_Lmade, .func (PySem.W.fnOf "_law_made" "_law_made" (defArgs s_Lmade) (defBody s_Lmade) (defScope s_Lmade) .none kV_Lmade dc_Lmade pm_Lmade an_Lmade cd_Lmade ct_Lmade), sl_Lmade⟩)
  (c_Lmade : PySem.W.codeIn K cd_Lmade "_law_made" = true)
  (k_Lmade : PySem.W.keepIn K (.ref f_Lmade) = true)
  (a_Lspoil_entry : PySem.W.nsIn K mainGlobals "_law_spoil_entry" = some (some (.ref f_Lspoil_entry)))
  (l_Lspoil_entry : K.lookup f_Lspoil_entry = some ⟨oc_Lspoil_entry, od_Lspoil_entry, .func (PySem.W.fnOf "_law_spoil_entry" "_law_spoil_entry" (defArgs s_Lspoil_entry) (defBody s_Lspoil_entry) (defScope s_Lspoil_entry) .none kV_Lspoil_entry dc_Lspoil_entry pm_Lspoil_entry an_Lspoil_entry cd_Lspoil_entry ct_Lspoil_entry), sl_Lspoil_entry⟩)
  (c_Lspoil_entry : PySem.W.codeIn K cd_Lspoil_entry "_law_spoil_entry" = true)
  (k_Lspoil_entry : PySem.W.keepIn K (.ref f_Lspoil_entry) = true)
  (a_Lspoil_lines : PySem.W.nsIn K mainGlobals "_law_spoil_lines" = some (some (.ref f_Lspoil_lines)))
  (l_Lspoil_lines : K.lookup f_Lspoil_lines = some ⟨oc_Lspoil_lines, od_Lspoil_lines, .func (PySem.W.fnOf "_law_spoil_lines" "_law_spoil_lines" (defArgs s_Lspoil_lines) (defBody s_Lspoil_lines) (defScope s_Lspoil_lines) .none kV_Lspoil_lines dc_Lspoil_lines pm_Lspoil_lines an_Lspoil_lines cd_Lspoil_lines ct_Lspoil_lines), sl_Lspoil_lines⟩)
  (c_Lspoil_lines : PySem.W.codeIn K cd_Lspoil_lines "_law_spoil_lines" = true)
  (k_Lspoil_lines : PySem.W.keepIn K (.ref f_Lspoil_lines) = true)
  (a_Lrefused : PySem.W.nsIn K mainGlobals "_law_refused" = some (some (.ref f_Lrefused)))
  (l_Lrefused : K.lookup f_Lrefused = some ⟨oc_Lrefused, od_Lrefused, .func (PySem.W.fnOf "_law_refused" "_law_refused" (defArgs s_Lrefused) (defBody s_Lrefused) (defScope s_Lrefused) .none kV_Lrefused dc_Lrefused pm_Lrefused an_Lrefused cd_Lrefused ct_Lrefused), sl_Lrefused⟩)
  (c_Lrefused : PySem.W.codeIn K cd_Lrefused "_law_refused" = true)
  (k_Lrefused : PySem.W.keepIn K (.ref f_Lrefused) = true)
  (a_Lcut : PySem.W.nsIn K mainGlobals "_law_cut" = some (some (.ref f_Lcut)))
  (l_Lcut : K.lookup f_Lcut = some ⟨oc_Lcut, od_Lcut, .func (PySem.W.fnOf "_law_cut" "_law_cut" (defArgs s_Lcut) (defBody s_Lcut) (defScope s_Lcut) .none kV_Lcut dc_Lcut pm_Lcut an_Lcut cd_Lcut ct_Lcut), sl_Lcut⟩)
  (c_Lcut : PySem.W.codeIn K cd_Lcut "_law_cut" = true)
  (k_Lcut : PySem.W.keepIn K (.ref f_Lcut) = true)
  (a_Ladded : PySem.W.nsIn K mainGlobals "_law_added" = some (some (.ref f_Ladded)))
  (l_Ladded : K.lookup f_Ladded = some ⟨oc_Ladded, od_Ladded, .func (PySem.W.fnOf "_law_added" "_law_added" (defArgs s_Ladded) (defBody s_Ladded) (defScope s_Ladded) .none kV_Ladded dc_Ladded pm_Ladded an_Ladded cd_Ladded ct_Ladded), sl_Ladded⟩)
  (c_Ladded : PySem.W.codeIn K cd_Ladded "_law_added" = true)
  (k_Ladded : PySem.W.keepIn K (.ref f_Ladded) = true)
  (a_Ladded_due : PySem.W.nsIn K mainGlobals "_law_added_due" = some (some (.ref f_Ladded_due)))
  (l_Ladded_due : K.lookup f_Ladded_due = some ⟨oc_Ladded_due, od_Ladded_due, .func (PySem.W.fnOf "_law_added_due" "_law_added_due" (defArgs s_Ladded_due) (defBody s_Ladded_due) (defScope s_Ladded_due) .none kV_Ladded_due dc_Ladded_due pm_Ladded_due an_Ladded_due cd_Ladded_due ct_Ladded_due), sl_Ladded_due⟩)
  (c_Ladded_due : PySem.W.codeIn K cd_Ladded_due "_law_added_due" = true)
  (k_Ladded_due : PySem.W.keepIn K (.ref f_Ladded_due) = true)
  (a_Lorder : PySem.W.nsIn K mainGlobals "_law_order" = some (some (.ref f_Lorder)))
  (l_Lorder : K.lookup f_Lorder = some ⟨oc_Lorder, od_Lorder, .func (PySem.W.fnOf "_law_order" "_law_order" (defArgs s_Lorder) (defBody s_Lorder) (defScope s_Lorder) .none kV_Lorder dc_Lorder pm_Lorder an_Lorder cd_Lorder ct_Lorder), sl_Lorder⟩)
  (c_Lorder : PySem.W.codeIn K cd_Lorder "_law_order" = true)
  (k_Lorder : PySem.W.keepIn K (.ref f_Lorder) = true)
  (a_Lis_order : PySem.W.nsIn K mainGlobals "_law_is_order" = some (some (.ref f_Lis_order)))
  (l_Lis_order : K.lookup f_Lis_order = some ⟨oc_Lis_order, od_Lis_order, .func (PySem.W.fnOf "_law_is_order" "_law_is_order" (defArgs s_Lis_order) (defBody s_Lis_order) (defScope s_Lis_order) .none kV_Lis_order dc_Lis_order pm_Lis_order an_Lis_order cd_Lis_order ct_Lis_order), sl_Lis_order⟩)
  (c_Lis_order : PySem.W.codeIn K cd_Lis_order "_law_is_order" = true)
  (k_Lis_order : PySem.W.keepIn K (.ref f_Lis_order) = true)
  (a_Lrenumbered : PySem.W.nsIn K mainGlobals "_law_renumbered" = some (some (.ref f_Lrenumbered)))
  (l_Lrenumbered : K.lookup f_Lrenumbered = some ⟨oc_Lrenumbered, od_Lrenumbered, .func (PySem.W.fnOf "_law_renumbered" "_law_renumbered" (defArgs s_Lrenumbered) (defBody s_Lrenumbered) (defScope s_Lrenumbered) .none kV_Lrenumbered dc_Lrenumbered pm_Lrenumbered an_Lrenumbered cd_Lrenumbered ct_Lrenumbered), sl_Lrenumbered⟩)
  (c_Lrenumbered : PySem.W.codeIn K cd_Lrenumbered "_law_renumbered" = true)
  (k_Lrenumbered : PySem.W.keepIn K (.ref f_Lrenumbered) = true)
  (a_Lrenumbered_due : PySem.W.nsIn K mainGlobals "_law_renumbered_due" = some (some (.ref f_Lrenumbered_due)))
  (l_Lrenumbered_due : K.lookup f_Lrenumbered_due = some ⟨oc_Lrenumbered_due, od_Lrenumbered_due, .func (PySem.W.fnOf "_law_renumbered_due" "_law_renumbered_due" (defArgs s_Lrenumbered_due) (defBody s_Lrenumbered_due) (defScope s_Lrenumbered_due) .none kV_Lrenumbered_due dc_Lrenumbered_due pm_Lrenumbered_due an_Lrenumbered_due cd_Lrenumbered_due ct_Lrenumbered_due), sl_Lrenumbered_due⟩)
  (c_Lrenumbered_due : PySem.W.codeIn K cd_Lrenumbered_due "_law_renumbered_due" = true)
  (k_Lrenumbered_due : PySem.W.keepIn K (.ref f_Lrenumbered_due) = true)
  (a_Lturned : PySem.W.nsIn K mainGlobals "_law_turned" = some (some (.ref f_Lturned)))
  (l_Lturned : K.lookup f_Lturned = some ⟨oc_Lturned, od_Lturned, .func (PySem.W.fnOf "_law_turned" "_law_turned" (defArgs s_Lturned) (defBody s_Lturned) (defScope s_Lturned) .none kV_Lturned dc_Lturned pm_Lturned an_Lturned cd_Lturned ct_Lturned), sl_Lturned⟩)
  (c_Lturned : PySem.W.codeIn K cd_Lturned "_law_turned" = true)
  (k_Lturned : PySem.W.keepIn K (.ref f_Lturned) = true)
  (a_Lcase : PySem.W.nsIn K mainGlobals "_law_case" = some (some (.ref f_Lcase)))
  (l_Lcase : K.lookup f_Lcase = some ⟨oc_Lcase, od_Lcase, .func (PySem.W.fnOf "_law_case" "_law_case" (defArgs s_Lcase) (defBody s_Lcase) (defScope s_Lcase) .none kV_Lcase dc_Lcase pm_Lcase an_Lcase cd_Lcase ct_Lcase), sl_Lcase⟩)
  (c_Lcase : PySem.W.codeIn K cd_Lcase "_law_case" = true)
  (k_Lcase : PySem.W.keepIn K (.ref f_Lcase) = true)
  (a_law : PySem.W.nsIn K mainGlobals "law" = some (some (.ref f_law)))
  (l_law : K.lookup f_law = some ⟨oc_law, od_law, .func (PySem.W.fnOf "law" "law" (defArgs s_law) (defBody s_law) (defScope s_law) .none kV_law dc_law pm_law an_law cd_law ct_law), sl_law⟩)
  (c_law : PySem.W.codeIn K cd_law "law" = true)
  (k_law : PySem.W.keepIn K (.ref f_law) = true)
  (k_CallError : PySem.W.keepIn K (.ref C_CallError) = true)
  (b_CallError : PySem.W.subIn K (.ref C_CallError) (.type "BaseException") = some true)
  (t_CallError : PySem.W.typeIn K (.ref C_CallError) = some (.type "type"))
  (i_CallError : PySem.W.isClsIn K C_CallError = true)
  (s_CallError : PySem.W.subIn K (.ref C_CallError) (.ref C_CallError) = some true)
  (x_CallError : PySem.W.excIn K C_CallError [.type "ValueError", .type "Exception", .type "BaseException", .type "object"] "ValueError.__new__" = true)
  (u_BadLot_BadSide : PySem.W.subIn K (.ref C_BadLot) (.ref C_BadSide) = some false)
  (k_BadLot : PySem.W.keepIn K (.ref C_BadLot) = true)
  (b_BadLot : PySem.W.subIn K (.ref C_BadLot) (.type "BaseException") = some true)
  (t_BadLot : PySem.W.typeIn K (.ref C_BadLot) = some (.type "type"))
  (i_BadLot : PySem.W.isClsIn K C_BadLot = true)
  (s_BadLot : PySem.W.subIn K (.ref C_BadLot) (.ref C_BadLot) = some true)
  (x_BadLot : K.lookup C_BadLot = some (excClassObj nm_BadLot qn_BadLot C_BadLot N_BadLot bs_BadLot [.ref C_CallError, .type "ValueError", .type "Exception", .type "BaseException", .type "object"] true sn_BadLot sb_BadLot ab_BadLot co_BadLot dd_BadLot m0_BadLot m1_BadLot m2_BadLot m3_BadLot m5_BadLot "ValueError.__new__"))
  (sa_BadLot : PySem.W.findIn K (.ref C_BadLot) "__setattr__" = some (some (.builtin "object.__setattr__")))
  (ga_BadLot : PySem.W.findIn K (.ref C_BadLot) "__getattribute__" = some (some (.builtin "BaseException.__getattribute__")))
  (gg_BadLot : PySem.W.findIn K (.ref C_BadLot) "__getattr__" = some none)
  (hd_BadLot : PySem.W.hasDictIn K C_BadLot = true)
  (y_BadLot : PySem.W.typeIn K (.ref f_BadLotu_initu) = some (.type "function"))
  (n_BadLot_side : PySem.W.findIn K (.ref C_BadLot) "side" = some none)
  (k_BadSide : PySem.W.keepIn K (.ref C_BadSide) = true)
  (b_BadSide : PySem.W.subIn K (.ref C_BadSide) (.type "BaseException") = some true)
  (t_BadSide : PySem.W.typeIn K (.ref C_BadSide) = some (.type "type"))
  (i_BadSide : PySem.W.isClsIn K C_BadSide = true)
  (s_BadSide : PySem.W.subIn K (.ref C_BadSide) (.ref C_BadSide) = some true)
  (x_BadSide : PySem.W.excIn K C_BadSide [.type "ValueError", .type "Exception", .type "BaseException", .type "object"] "ValueError.__new__" = true)
  (k_BadCosts : PySem.W.keepIn K (.ref C_BadCosts) = true)
  (b_BadCosts : PySem.W.subIn K (.ref C_BadCosts) (.type "BaseException") = some true)
  (t_BadCosts : PySem.W.typeIn K (.ref C_BadCosts) = some (.type "type"))
  (i_BadCosts : PySem.W.isClsIn K C_BadCosts = true)
  (s_BadCosts : PySem.W.subIn K (.ref C_BadCosts) (.ref C_BadCosts) = some true)
  (x_BadCosts : K.lookup C_BadCosts = some (excClassObj nm_BadCosts qn_BadCosts C_BadCosts N_BadCosts bs_BadCosts [.ref C_CallError, .type "ValueError", .type "Exception", .type "BaseException", .type "object"] true sn_BadCosts sb_BadCosts ab_BadCosts co_BadCosts dd_BadCosts m0_BadCosts m1_BadCosts m2_BadCosts m3_BadCosts m5_BadCosts "ValueError.__new__"))
  (sa_BadCosts : PySem.W.findIn K (.ref C_BadCosts) "__setattr__" = some (some (.builtin "object.__setattr__")))
  (ga_BadCosts : PySem.W.findIn K (.ref C_BadCosts) "__getattribute__" = some (some (.builtin "BaseException.__getattribute__")))
  (gg_BadCosts : PySem.W.findIn K (.ref C_BadCosts) "__getattr__" = some none)
  (hd_BadCosts : PySem.W.hasDictIn K C_BadCosts = true)
  (y_BadCosts : PySem.W.typeIn K (.ref f_BadCostsu_initu) = some (.type "function"))
  (n_BadCosts_what : PySem.W.findIn K (.ref C_BadCosts) "what" = some none)
  (kp_Costs : PySem.W.keepIn K (.ref C_Costs) = true)
  (pg_Costs : PySem.W.plainGet K C_Costs Str.empty = true)
  (hd_Costs : PySem.W.hasDictIn K C_Costs = true)
  (po_Costs : PySem.W.plainOver K C_Costs = true)
  (sa_Costs : PySem.W.findIn K (.ref C_Costs) "__setattr__" = some (some (.builtin "object.__setattr__")))
  (mk_Costs : PySem.W.makesIn K C_Costs = true)
  (fn_Costsu_initu : PySem.W.isFn K (.ref f_Costsu_initu) = true)
  (fn_Costsu_equ : PySem.W.isFn K (.ref f_Costsu_equ) = true)
  (fn_Costs_cut : PySem.W.isFn K (.ref f_Costs_cut) = true)
  (fn_Costs_added : PySem.W.isFn K (.ref f_Costs_added) = true)
  (fn_Costs_renumbered : PySem.W.isFn K (.ref f_Costs_renumbered) = true)
  (n_Costs_ladder : PySem.W.findIn K (.ref C_Costs) "ladder" = some none)
  (n_Costs_lines : PySem.W.findIn K (.ref C_Costs) "lines" = some none)
  (n_Costs_sides : PySem.W.findIn K (.ref C_Costs) "sides" = some none)
  (z_ValueError : PySem.W.nsIn K mainGlobals "ValueError" = some none)
  (z_abs : PySem.W.nsIn K mainGlobals "abs" = some none)
  (z_all : PySem.W.nsIn K mainGlobals "all" = some none)
  (z_bool : PySem.W.nsIn K mainGlobals "bool" = some none)
  (z_enumerate : PySem.W.nsIn K mainGlobals "enumerate" = some none)
  (z_int : PySem.W.nsIn K mainGlobals "int" = some none)
  (z_isinstance : PySem.W.nsIn K mainGlobals "isinstance" = some none)
  (z_len : PySem.W.nsIn K mainGlobals "len" = some none)
  (z_list : PySem.W.nsIn K mainGlobals "list" = some none)
  (z_range : PySem.W.nsIn K mainGlobals "range" = some none)
  (z_sorted : PySem.W.nsIn K mainGlobals "sorted" = some none)
  (z_tuple : PySem.W.nsIn K mainGlobals "tuple" = some none)
  (c_EAST : PySem.W.nsIn K mainGlobals "EAST" = some (some (.int (0) t_EAST)))
  (c_WEST : PySem.W.nsIn K mainGlobals "WEST" = some (some (.int (1) t_WEST)))
  (c_LADDER_MOST : PySem.W.nsIn K mainGlobals "LADDER_MOST" = some (some (.int (6) t_LADDER_MOST)))
  (c_KINDS_MOST : PySem.W.nsIn K mainGlobals "KINDS_MOST" = some (some (.int (6) t_KINDS_MOST)))
  (c_COUPLES_MOST : PySem.W.nsIn K mainGlobals "COUPLES_MOST" = some (some (.int (12) t_COUPLES_MOST)))
  (c_COST_MOST : PySem.W.nsIn K mainGlobals "COST_MOST" = some (some (.int (1000000) t_COST_MOST)))
  (zz_i_Costs_ca : PySem.W.findIn K (.ref C_Costs) "__class__" = some (some (.builtin "object.__class__")))
  (zz_i_Costs_cn : PySem.W.specialIn K (.builtin "object.__class__") "__get__" = some (some (.builtin "getset_descriptor.__get__")))
  (zz_i_Costs_ct : PySem.W.takesIn K (.builtin "object.__class__") = some true)
  (zz_i_Costs_cm : PySem.W.mroIn K C_Costs (.type "object") = some true)
  (zz_i_Costs_kt : PySem.W.kitOne K (.type "tuple") (.ref C_Costs) = some false)
  (zz_i_Costs_nt : PySem.W.notFirst K C_Costs (.type "tuple") = true)
  (zz_i_Costs_ne : PySem.W.findIn K (.ref C_Costs) "__ne__" = some (some (.builtin "object.__ne__"))) :
    ∃ fd : FuncData, (∀ (s : Shared) (v : Value), BindsTo s fd ⟨[v], []⟩ [("_law_script", v)]) ∧ ∀ base : Heap, K.In base → base.Ns mainGlobals mg → FnOk P w K mg base CX0 10 fa fd ["_law_script"] (sp_law K) := by
  have e : f_law = fa := Value.ref.inj (Option.some.inj ((PySem.W.mg_of X G a_law).symm.trans hfa))
  subst e
  have F_BadLotu_initu := fun_mk (st := s_BadLotu_initu) l_BadLotu_initu c_BadLotu_initu k_BadLotu_initu
  have F_BadCostsu_initu := fun_mk (st := s_BadCostsu_initu) l_BadCostsu_initu c_BadCostsu_initu k_BadCostsu_initu
  have F_is_whole : FunD K "is_whole" "is_whole" (defArgs s_is_whole) (defBody s_is_whole) (defScope s_is_whole) [.non, .non] [] f_is_whole (PySem.W.fnOf "is_whole" "is_whole" (defArgs s_is_whole) (defBody s_is_whole) (defScope s_is_whole) (.ref q_is_whole) kV_is_whole dc_is_whole pm_is_whole an_is_whole cd_is_whole ct_is_whole) := ⟨⟨oc_is_whole, od_is_whole, _, kV_is_whole, dc_is_whole, pm_is_whole, an_is_whole, cd_is_whole, ct_is_whole, sl_is_whole, rfl, l_is_whole, c_is_whole, .inr ⟨by simp, q_is_whole, _, [Value.none, Value.none], qn_is_whole, rfl, t_is_whole, rfl, (.cons rfl (.cons rfl .nil))⟩, .inl rfl⟩, k_is_whole⟩
  have F_is_sequence := fun_mk (st := s_is_sequence) l_is_sequence c_is_sequence k_is_sequence
  have F_check_side := fun_mk (st := s_check_side) l_check_side c_check_side k_check_side
  have F_are_sides := fun_mk (st := s_are_sides) l_are_sides c_are_sides k_are_sides
  have F_are_kinds := fun_mk (st := s_are_kinds) l_are_kinds c_are_kinds k_are_kinds
  have F_is_order := fun_mk (st := s_is_order) l_is_order c_is_order k_is_order
  have F_check_side_order := fun_mk (st := s_check_side_order) l_check_side_order c_check_side_order k_check_side_order
  have F_sides_of_lines := fun_mk (st := s_sides_of_lines) l_sides_of_lines c_sides_of_lines k_sides_of_lines
  have F_renumbered_lines := fun_mk (st := s_renumbered_lines) l_renumbered_lines c_renumbered_lines k_renumbered_lines
  have F_is_entry := fun_mk (st := s_is_entry) l_is_entry c_is_entry k_is_entry
  have F_Costsu_initu := fun_mk (st := s_Costsu_initu) l_Costsu_initu c_Costsu_initu k_Costsu_initu
  have F_Costsu_equ := fun_mk (st := s_Costsu_equ) l_Costsu_equ c_Costsu_equ k_Costsu_equ
  have F_Costs_cut := fun_mk (st := s_Costs_cut) l_Costs_cut c_Costs_cut k_Costs_cut
  have F_Costs_added := fun_mk (st := s_Costs_added) l_Costs_added c_Costs_added k_Costs_added
  have F_Costs_renumbered := fun_mk (st := s_Costs_renumbered) l_Costs_renumbered c_Costs_renumbered k_Costs_renumbered
  have F_Lmix := fun_mk (st := s_Lmix) l_Lmix c_Lmix k_Lmix
  have F_Lhand := fun_mk (st := s_Lhand) l_Lhand c_Lhand k_Lhand
  have F_Ldraw := fun_mk (st := s_Ldraw) l_Ldraw c_Ldraw k_Ldraw
  have F_Lwhole := fun_mk (st := s_Lwhole) l_Lwhole c_Lwhole k_Lwhole
  have F_Ldrawn := fun_mk (st := s_Ldrawn) l_Ldrawn c_Ldrawn k_Ldrawn
  have F_Ltuples := fun_mk (st := s_Ltuples) l_Ltuples c_Ltuples k_Ltuples
  have F_Llists := fun_mk (st := s_Llists) l_Llists c_Llists k_Llists
  have F_Ldue := fun_mk (st := s_Ldue) l_Ldue c_Ldue k_Ldue
  have F_Lmade := fun_mk (st := s_Lmade) l_Lmade c_Lmade k_Lmade
  have F_Lspoil_entry := fun_mk (st := s_Lspoil_entry) l_Lspoil_entry c_Lspoil_entry k_Lspoil_entry
  have F_Lspoil_lines := fun_mk (st := s_Lspoil_lines) l_Lspoil_lines c_Lspoil_lines k_Lspoil_lines
  have F_Lrefused := fun_mk (st := s_Lrefused) l_Lrefused c_Lrefused k_Lrefused
  have F_Lcut := fun_mk (st := s_Lcut) l_Lcut c_Lcut k_Lcut
  have F_Ladded := fun_mk (st := s_Ladded) l_Ladded c_Ladded k_Ladded
  have F_Ladded_due := fun_mk (st := s_Ladded_due) l_Ladded_due c_Ladded_due k_Ladded_due
  have F_Lorder := fun_mk (st := s_Lorder) l_Lorder c_Lorder k_Lorder
  have F_Lis_order := fun_mk (st := s_Lis_order) l_Lis_order c_Lis_order k_Lis_order
  have F_Lrenumbered := fun_mk (st := s_Lrenumbered) l_Lrenumbered c_Lrenumbered k_Lrenumbered
  have F_Lrenumbered_due := fun_mk (st := s_Lrenumbered_due) l_Lrenumbered_due c_Lrenumbered_due k_Lrenumbered_due
  have F_Lturned := fun_mk (st := s_Lturned) l_Lturned c_Lturned k_Lturned
  have F_Lcase := fun_mk (st := s_Lcase) l_Lcase c_Lcase k_Lcase
  have F_law := fun_mk (st := s_law) l_law c_law k_law
  let T : Tx := {
    f_BadLotu_initu := f_BadLotu_initu,
    d_BadLotu_initu := PySem.W.fnOf "__init__" "BadLot.__init__" (defArgs s_BadLotu_initu) (defBody s_BadLotu_initu) (defScope s_BadLotu_initu) .none kV_BadLotu_initu dc_BadLotu_initu pm_BadLotu_initu an_BadLotu_initu cd_BadLotu_initu ct_BadLotu_initu,
    f_BadCostsu_initu := f_BadCostsu_initu,
    d_BadCostsu_initu := PySem.W.fnOf "__init__" "BadCosts.__init__" (defArgs s_BadCostsu_initu) (defBody s_BadCostsu_initu) (defScope s_BadCostsu_initu) .none kV_BadCostsu_initu dc_BadCostsu_initu pm_BadCostsu_initu an_BadCostsu_initu cd_BadCostsu_initu ct_BadCostsu_initu,
    f_is_whole := f_is_whole,
    d_is_whole := PySem.W.fnOf "is_whole" "is_whole" (defArgs s_is_whole) (defBody s_is_whole) (defScope s_is_whole) (.ref q_is_whole) kV_is_whole dc_is_whole pm_is_whole an_is_whole cd_is_whole ct_is_whole,
    e1_is_whole := [Value.none],
    e2_is_whole := [Value.none, Value.none],
    f_is_sequence := f_is_sequence,
    d_is_sequence := PySem.W.fnOf "is_sequence" "is_sequence" (defArgs s_is_sequence) (defBody s_is_sequence) (defScope s_is_sequence) .none kV_is_sequence dc_is_sequence pm_is_sequence an_is_sequence cd_is_sequence ct_is_sequence,
    f_check_side := f_check_side,
    d_check_side := PySem.W.fnOf "check_side" "check_side" (defArgs s_check_side) (defBody s_check_side) (defScope s_check_side) .none kV_check_side dc_check_side pm_check_side an_check_side cd_check_side ct_check_side,
    f_are_sides := f_are_sides,
    d_are_sides := PySem.W.fnOf "are_sides" "are_sides" (defArgs s_are_sides) (defBody s_are_sides) (defScope s_are_sides) .none kV_are_sides dc_are_sides pm_are_sides an_are_sides cd_are_sides ct_are_sides,
    f_are_kinds := f_are_kinds,
    d_are_kinds := PySem.W.fnOf "are_kinds" "are_kinds" (defArgs s_are_kinds) (defBody s_are_kinds) (defScope s_are_kinds) .none kV_are_kinds dc_are_kinds pm_are_kinds an_are_kinds cd_are_kinds ct_are_kinds,
    f_is_order := f_is_order,
    d_is_order := PySem.W.fnOf "is_order" "is_order" (defArgs s_is_order) (defBody s_is_order) (defScope s_is_order) .none kV_is_order dc_is_order pm_is_order an_is_order cd_is_order ct_is_order,
    f_check_side_order := f_check_side_order,
    d_check_side_order := PySem.W.fnOf "check_side_order" "check_side_order" (defArgs s_check_side_order) (defBody s_check_side_order) (defScope s_check_side_order) .none kV_check_side_order dc_check_side_order pm_check_side_order an_check_side_order cd_check_side_order ct_check_side_order,
    f_sides_of_lines := f_sides_of_lines,
    d_sides_of_lines := PySem.W.fnOf "sides_of_lines" "sides_of_lines" (defArgs s_sides_of_lines) (defBody s_sides_of_lines) (defScope s_sides_of_lines) .none kV_sides_of_lines dc_sides_of_lines pm_sides_of_lines an_sides_of_lines cd_sides_of_lines ct_sides_of_lines,
    f_renumbered_lines := f_renumbered_lines,
    d_renumbered_lines := PySem.W.fnOf "renumbered_lines" "renumbered_lines" (defArgs s_renumbered_lines) (defBody s_renumbered_lines) (defScope s_renumbered_lines) .none kV_renumbered_lines dc_renumbered_lines pm_renumbered_lines an_renumbered_lines cd_renumbered_lines ct_renumbered_lines,
    f_is_entry := f_is_entry,
    d_is_entry := PySem.W.fnOf "is_entry" "is_entry" (defArgs s_is_entry) (defBody s_is_entry) (defScope s_is_entry) .none kV_is_entry dc_is_entry pm_is_entry an_is_entry cd_is_entry ct_is_entry,
    f_Costsu_initu := f_Costsu_initu,
    d_Costsu_initu := PySem.W.fnOf "__init__" "Costs.__init__" (defArgs s_Costsu_initu) (defBody s_Costsu_initu) (defScope s_Costsu_initu) .none kV_Costsu_initu dc_Costsu_initu pm_Costsu_initu an_Costsu_initu cd_Costsu_initu ct_Costsu_initu,
    f_Costsu_equ := f_Costsu_equ,
    d_Costsu_equ := PySem.W.fnOf "__eq__" "Costs.__eq__" (defArgs s_Costsu_equ) (defBody s_Costsu_equ) (defScope s_Costsu_equ) .none kV_Costsu_equ dc_Costsu_equ pm_Costsu_equ an_Costsu_equ cd_Costsu_equ ct_Costsu_equ,
    f_Costs_cut := f_Costs_cut,
    d_Costs_cut := PySem.W.fnOf "cut" "Costs.cut" (defArgs s_Costs_cut) (defBody s_Costs_cut) (defScope s_Costs_cut) .none kV_Costs_cut dc_Costs_cut pm_Costs_cut an_Costs_cut cd_Costs_cut ct_Costs_cut,
    f_Costs_added := f_Costs_added,
    d_Costs_added := PySem.W.fnOf "added" "Costs.added" (defArgs s_Costs_added) (defBody s_Costs_added) (defScope s_Costs_added) .none kV_Costs_added dc_Costs_added pm_Costs_added an_Costs_added cd_Costs_added ct_Costs_added,
    f_Costs_renumbered := f_Costs_renumbered,
    d_Costs_renumbered := PySem.W.fnOf "renumbered" "Costs.renumbered" (defArgs s_Costs_renumbered) (defBody s_Costs_renumbered) (defScope s_Costs_renumbered) .none kV_Costs_renumbered dc_Costs_renumbered pm_Costs_renumbered an_Costs_renumbered cd_Costs_renumbered ct_Costs_renumbered,
    f_Lmix := f_Lmix,
    d_Lmix := PySem.W.fnOf "_law_mix" "_law_mix" (defArgs s_Lmix) (defBody s_Lmix) (defScope s_Lmix) .none kV_Lmix dc_Lmix pm_Lmix an_Lmix cd_Lmix ct_Lmix,
    f_Lhand := f_Lhand,
    d_Lhand := PySem.W.fnOf "_law_hand" "_law_hand" (defArgs s_Lhand) (defBody s_Lhand) (defScope s_Lhand) .none kV_Lhand dc_Lhand pm_Lhand an_Lhand cd_Lhand ct_Lhand,
    f_Ldraw := f_Ldraw,
    d_Ldraw := PySem.W.fnOf "_law_draw" "_law_draw" (defArgs s_Ldraw) (defBody s_Ldraw) (defScope s_Ldraw) .none kV_Ldraw dc_Ldraw pm_Ldraw an_Ldraw cd_Ldraw ct_Ldraw,
    f_Lwhole := f_Lwhole,
    d_Lwhole := PySem.W.fnOf "_law_whole" "_law_whole" (defArgs s_Lwhole) (defBody s_Lwhole) (defScope s_Lwhole) .none kV_Lwhole dc_Lwhole pm_Lwhole an_Lwhole cd_Lwhole ct_Lwhole,
    f_Ldrawn := f_Ldrawn,
    d_Ldrawn := PySem.W.fnOf "_law_drawn" "_law_drawn" (defArgs s_Ldrawn) (defBody s_Ldrawn) (defScope s_Ldrawn) .none kV_Ldrawn dc_Ldrawn pm_Ldrawn an_Ldrawn cd_Ldrawn ct_Ldrawn,
    f_Ltuples := f_Ltuples,
    d_Ltuples := PySem.W.fnOf "_law_tuples" "_law_tuples" (defArgs s_Ltuples) (defBody s_Ltuples) (defScope s_Ltuples) .none kV_Ltuples dc_Ltuples pm_Ltuples an_Ltuples cd_Ltuples ct_Ltuples,
    f_Llists := f_Llists,
    d_Llists := PySem.W.fnOf "_law_lists" "_law_lists" (defArgs s_Llists) (defBody s_Llists) (defScope s_Llists) .none kV_Llists dc_Llists pm_Llists an_Llists cd_Llists ct_Llists,
    f_Ldue := f_Ldue,
    d_Ldue := PySem.W.fnOf "_law_due" "_law_due" (defArgs s_Ldue) (defBody s_Ldue) (defScope s_Ldue) .none kV_Ldue dc_Ldue pm_Ldue an_Ldue cd_Ldue ct_Ldue,
    f_Lmade := f_Lmade,
    d_Lmade := PySem.W.fnOf "_law_made" "_law_made" (defArgs s_Lmade) (defBody s_Lmade) (defScope s_Lmade) .none kV_Lmade dc_Lmade pm_Lmade an_Lmade cd_Lmade ct_Lmade,
    f_Lspoil_entry := f_Lspoil_entry,
    d_Lspoil_entry := PySem.W.fnOf "_law_spoil_entry" "_law_spoil_entry" (defArgs s_Lspoil_entry) (defBody s_Lspoil_entry) (defScope s_Lspoil_entry) .none kV_Lspoil_entry dc_Lspoil_entry pm_Lspoil_entry an_Lspoil_entry cd_Lspoil_entry ct_Lspoil_entry,
    f_Lspoil_lines := f_Lspoil_lines,
    d_Lspoil_lines := PySem.W.fnOf "_law_spoil_lines" "_law_spoil_lines" (defArgs s_Lspoil_lines) (defBody s_Lspoil_lines) (defScope s_Lspoil_lines) .none kV_Lspoil_lines dc_Lspoil_lines pm_Lspoil_lines an_Lspoil_lines cd_Lspoil_lines ct_Lspoil_lines,
    f_Lrefused := f_Lrefused,
    d_Lrefused := PySem.W.fnOf "_law_refused" "_law_refused" (defArgs s_Lrefused) (defBody s_Lrefused) (defScope s_Lrefused) .none kV_Lrefused dc_Lrefused pm_Lrefused an_Lrefused cd_Lrefused ct_Lrefused,
    f_Lcut := f_Lcut,
    d_Lcut := PySem.W.fnOf "_law_cut" "_law_cut" (defArgs s_Lcut) (defBody s_Lcut) (defScope s_Lcut) .none kV_Lcut dc_Lcut pm_Lcut an_Lcut cd_Lcut ct_Lcut,
    f_Ladded := f_Ladded,
    d_Ladded := PySem.W.fnOf "_law_added" "_law_added" (defArgs s_Ladded) (defBody s_Ladded) (defScope s_Ladded) .none kV_Ladded dc_Ladded pm_Ladded an_Ladded cd_Ladded ct_Ladded,
    f_Ladded_due := f_Ladded_due,
    d_Ladded_due := PySem.W.fnOf "_law_added_due" "_law_added_due" (defArgs s_Ladded_due) (defBody s_Ladded_due) (defScope s_Ladded_due) .none kV_Ladded_due dc_Ladded_due pm_Ladded_due an_Ladded_due cd_Ladded_due ct_Ladded_due,
    f_Lorder := f_Lorder,
    d_Lorder := PySem.W.fnOf "_law_order" "_law_order" (defArgs s_Lorder) (defBody s_Lorder) (defScope s_Lorder) .none kV_Lorder dc_Lorder pm_Lorder an_Lorder cd_Lorder ct_Lorder,
    f_Lis_order := f_Lis_order,
    d_Lis_order := PySem.W.fnOf "_law_is_order" "_law_is_order" (defArgs s_Lis_order) (defBody s_Lis_order) (defScope s_Lis_order) .none kV_Lis_order dc_Lis_order pm_Lis_order an_Lis_order cd_Lis_order ct_Lis_order,
    f_Lrenumbered := f_Lrenumbered,
    d_Lrenumbered := PySem.W.fnOf "_law_renumbered" "_law_renumbered" (defArgs s_Lrenumbered) (defBody s_Lrenumbered) (defScope s_Lrenumbered) .none kV_Lrenumbered dc_Lrenumbered pm_Lrenumbered an_Lrenumbered cd_Lrenumbered ct_Lrenumbered,
    f_Lrenumbered_due := f_Lrenumbered_due,
    d_Lrenumbered_due := PySem.W.fnOf "_law_renumbered_due" "_law_renumbered_due" (defArgs s_Lrenumbered_due) (defBody s_Lrenumbered_due) (defScope s_Lrenumbered_due) .none kV_Lrenumbered_due dc_Lrenumbered_due pm_Lrenumbered_due an_Lrenumbered_due cd_Lrenumbered_due ct_Lrenumbered_due,
    f_Lturned := f_Lturned,
    d_Lturned := PySem.W.fnOf "_law_turned" "_law_turned" (defArgs s_Lturned) (defBody s_Lturned) (defScope s_Lturned) .none kV_Lturned dc_Lturned pm_Lturned an_Lturned cd_Lturned ct_Lturned,
    f_Lcase := f_Lcase,
    d_Lcase := PySem.W.fnOf "_law_case" "_law_case" (defArgs s_Lcase) (defBody s_Lcase) (defScope s_Lcase) .none kV_Lcase dc_Lcase pm_Lcase an_Lcase cd_Lcase ct_Lcase,
    f_law := f_law,
    d_law := PySem.W.fnOf "law" "law" (defArgs s_law) (defBody s_law) (defScope s_law) .none kV_law dc_law pm_law an_law cd_law ct_law,
    C_CallError := C_CallError,
    C_BadLot := C_BadLot,
    C_BadSide := C_BadSide,
    C_BadCosts := C_BadCosts,
    C_Costs := C_Costs,
    t_EAST := t_EAST,
    t_WEST := t_WEST,
    t_LADDER_MOST := t_LADDER_MOST,
    t_KINDS_MOST := t_KINDS_MOST,
    t_COUPLES_MOST := t_COUPLES_MOST,
    t_COST_MOST := t_COST_MOST }
  have O : Ok K mg T := {
    F_BadLotu_initu := F_BadLotu_initu,
    b_BadLotu_initu := F_BadLotu_initu.binds (ps := ["self", "side"]) fun _ _ _ _ _ _ us hl => match us, hl with | [_, _], _ => rfl,
    F_BadCostsu_initu := F_BadCostsu_initu,
    b_BadCostsu_initu := F_BadCostsu_initu.binds (ps := ["self", "what"]) fun _ _ _ _ _ _ us hl => match us, hl with | [_, _], _ => rfl,
    F_is_whole := F_is_whole,
    b_is_whole := Jv.bindsD (K := K) (T := q_is_whole) (m := 3) t_is_whole rfl rfl fun us hl => match us, hl with | [_, _, _], _ => ⟨_, rfl, rfl⟩,
    b1_is_whole := ⟨(.cons rfl .nil), Jv.bindsD (K := K) (T := q_is_whole) (m := 2) t_is_whole rfl rfl fun us hl => match us, hl with | [_, _], _ => ⟨_, rfl, rfl⟩⟩,
    b2_is_whole := ⟨(.cons rfl (.cons rfl .nil)), Jv.bindsD (K := K) (T := q_is_whole) (m := 1) t_is_whole rfl rfl fun us hl => match us, hl with | [_], _ => ⟨_, rfl, rfl⟩⟩,
    m_is_whole := PySem.W.mg_of X G a_is_whole,
    F_is_sequence := F_is_sequence,
    b_is_sequence := F_is_sequence.binds (ps := ["thing"]) fun _ _ _ _ _ _ us hl => match us, hl with | [_], _ => rfl,
    m_is_sequence := PySem.W.mg_of X G a_is_sequence,
    F_check_side := F_check_side,
    b_check_side := F_check_side.binds (ps := ["side"]) fun _ _ _ _ _ _ us hl => match us, hl with | [_], _ => rfl,
    m_check_side := PySem.W.mg_of X G a_check_side,
    F_are_sides := F_are_sides,
    b_are_sides := F_are_sides.binds (ps := ["thing"]) fun _ _ _ _ _ _ us hl => match us, hl with | [_], _ => rfl,
    m_are_sides := PySem.W.mg_of X G a_are_sides,
    F_are_kinds := F_are_kinds,
    b_are_kinds := F_are_kinds.binds (ps := ["thing", "kinds"]) fun _ _ _ _ _ _ us hl => match us, hl with | [_, _], _ => rfl,
    m_are_kinds := PySem.W.mg_of X G a_are_kinds,
    F_is_order := F_is_order,
    b_is_order := F_is_order.binds (ps := ["thing", "many"]) fun _ _ _ _ _ _ us hl => match us, hl with | [_, _], _ => rfl,
    m_is_order := PySem.W.mg_of X G a_is_order,
    F_check_side_order := F_check_side_order,
    b_check_side_order := F_check_side_order.binds (ps := ["order", "kinds", "side"]) fun _ _ _ _ _ _ us hl => match us, hl with | [_, _, _], _ => rfl,
    m_check_side_order := PySem.W.mg_of X G a_check_side_order,
    F_sides_of_lines := F_sides_of_lines,
    b_sides_of_lines := F_sides_of_lines.binds (ps := ["lines"]) fun _ _ _ _ _ _ us hl => match us, hl with | [_], _ => rfl,
    m_sides_of_lines := PySem.W.mg_of X G a_sides_of_lines,
    F_renumbered_lines := F_renumbered_lines,
    b_renumbered_lines := F_renumbered_lines.binds (ps := ["lines", "side", "order"]) fun _ _ _ _ _ _ us hl => match us, hl with | [_, _, _], _ => rfl,
    m_renumbered_lines := PySem.W.mg_of X G a_renumbered_lines,
    F_is_entry := F_is_entry,
    b_is_entry := F_is_entry.binds (ps := ["thing", "ladder"]) fun _ _ _ _ _ _ us hl => match us, hl with | [_, _], _ => rfl,
    m_is_entry := PySem.W.mg_of X G a_is_entry,
    F_Costsu_initu := F_Costsu_initu,
    b_Costsu_initu := F_Costsu_initu.binds (ps := ["self", "ladder", "lines"]) fun _ _ _ _ _ _ us hl => match us, hl with | [_, _, _], _ => rfl,
    F_Costsu_equ := F_Costsu_equ,
    b_Costsu_equ := F_Costsu_equ.binds (ps := ["self", "other"]) fun _ _ _ _ _ _ us hl => match us, hl with | [_, _], _ => rfl,
    F_Costs_cut := F_Costs_cut,
    b_Costs_cut := F_Costs_cut.binds (ps := ["self", "ladder"]) fun _ _ _ _ _ _ us hl => match us, hl with | [_, _], _ => rfl,
    F_Costs_added := F_Costs_added,
    b_Costs_added := F_Costs_added.binds (ps := ["self", "amount"]) fun _ _ _ _ _ _ us hl => match us, hl with | [_, _], _ => rfl,
    F_Costs_renumbered := F_Costs_renumbered,
    b_Costs_renumbered := F_Costs_renumbered.binds (ps := ["self", "side", "order"]) fun _ _ _ _ _ _ us hl => match us, hl with | [_, _, _], _ => rfl,
    F_Lmix := F_Lmix,
    b_Lmix := F_Lmix.binds (ps := ["_law_number", "_law_turn"]) fun _ _ _ _ _ _ us hl => match us, hl with | [_, _], _ => rfl,
    m_Lmix := PySem.W.mg_of X G a_Lmix,
    F_Lhand := F_Lhand,
    b_Lhand := F_Lhand.binds (ps := ["_law_script"]) fun _ _ _ _ _ _ us hl => match us, hl with | [_], _ => rfl,
    m_Lhand := PySem.W.mg_of X G a_Lhand,
    F_Ldraw := F_Ldraw,
    b_Ldraw := F_Ldraw.binds (ps := ["_law_hand_here", "_law_many"]) fun _ _ _ _ _ _ us hl => match us, hl with | [_, _], _ => rfl,
    m_Ldraw := PySem.W.mg_of X G a_Ldraw,
    F_Lwhole := F_Lwhole,
    b_Lwhole := F_Lwhole.binds (ps := ["_law_thing"]) fun _ _ _ _ _ _ us hl => match us, hl with | [_], _ => rfl,
    m_Lwhole := PySem.W.mg_of X G a_Lwhole,
    F_Ldrawn := F_Ldrawn,
    b_Ldrawn := F_Ldrawn.binds (ps := ["_law_hand_here"]) fun _ _ _ _ _ _ us hl => match us, hl with | [_], _ => rfl,
    m_Ldrawn := PySem.W.mg_of X G a_Ldrawn,
    F_Ltuples := F_Ltuples,
    b_Ltuples := F_Ltuples.binds (ps := ["_law_lines"]) fun _ _ _ _ _ _ us hl => match us, hl with | [_], _ => rfl,
    m_Ltuples := PySem.W.mg_of X G a_Ltuples,
    F_Llists := F_Llists,
    b_Llists := F_Llists.binds (ps := ["_law_lines"]) fun _ _ _ _ _ _ us hl => match us, hl with | [_], _ => rfl,
    m_Llists := PySem.W.mg_of X G a_Llists,
    F_Ldue := F_Ldue,
    b_Ldue := F_Ldue.binds (ps := ["_law_ladder", "_law_lines"]) fun _ _ _ _ _ _ us hl => match us, hl with | [_, _], _ => rfl,
    m_Ldue := PySem.W.mg_of X G a_Ldue,
    F_Lmade := F_Lmade,
    b_Lmade := F_Lmade.binds (ps := ["_law_ladder", "_law_lines"]) fun _ _ _ _ _ _ us hl => match us, hl with | [_, _], _ => rfl,
    m_Lmade := PySem.W.mg_of X G a_Lmade,
    F_Lspoil_entry := F_Lspoil_entry,
    b_Lspoil_entry := F_Lspoil_entry.binds (ps := ["_law_hand_here", "_law_entry"]) fun _ _ _ _ _ _ us hl => match us, hl with | [_, _], _ => rfl,
    m_Lspoil_entry := PySem.W.mg_of X G a_Lspoil_entry,
    F_Lspoil_lines := F_Lspoil_lines,
    b_Lspoil_lines := F_Lspoil_lines.binds (ps := ["_law_hand_here", "_law_lines"]) fun _ _ _ _ _ _ us hl => match us, hl with | [_, _], _ => rfl,
    m_Lspoil_lines := PySem.W.mg_of X G a_Lspoil_lines,
    F_Lrefused := F_Lrefused,
    b_Lrefused := F_Lrefused.binds (ps := ["_law_hand_here", "_law_ladder", "_law_lines"]) fun _ _ _ _ _ _ us hl => match us, hl with | [_, _, _], _ => rfl,
    m_Lrefused := PySem.W.mg_of X G a_Lrefused,
    F_Lcut := F_Lcut,
    b_Lcut := F_Lcut.binds (ps := ["_law_costs", "_law_ladder"]) fun _ _ _ _ _ _ us hl => match us, hl with | [_, _], _ => rfl,
    m_Lcut := PySem.W.mg_of X G a_Lcut,
    F_Ladded := F_Ladded,
    b_Ladded := F_Ladded.binds (ps := ["_law_costs", "_law_amount"]) fun _ _ _ _ _ _ us hl => match us, hl with | [_, _], _ => rfl,
    m_Ladded := PySem.W.mg_of X G a_Ladded,
    F_Ladded_due := F_Ladded_due,
    b_Ladded_due := F_Ladded_due.binds (ps := ["_law_ladder", "_law_lines", "_law_amount"]) fun _ _ _ _ _ _ us hl => match us, hl with | [_, _, _], _ => rfl,
    m_Ladded_due := PySem.W.mg_of X G a_Ladded_due,
    F_Lorder := F_Lorder,
    b_Lorder := F_Lorder.binds (ps := ["_law_hand_here", "_law_many"]) fun _ _ _ _ _ _ us hl => match us, hl with | [_, _], _ => rfl,
    m_Lorder := PySem.W.mg_of X G a_Lorder,
    F_Lis_order := F_Lis_order,
    b_Lis_order := F_Lis_order.binds (ps := ["_law_order_here", "_law_many"]) fun _ _ _ _ _ _ us hl => match us, hl with | [_, _], _ => rfl,
    m_Lis_order := PySem.W.mg_of X G a_Lis_order,
    F_Lrenumbered := F_Lrenumbered,
    b_Lrenumbered := F_Lrenumbered.binds (ps := ["_law_costs", "_law_side", "_law_order_here"]) fun _ _ _ _ _ _ us hl => match us, hl with | [_, _, _], _ => rfl,
    m_Lrenumbered := PySem.W.mg_of X G a_Lrenumbered,
    F_Lrenumbered_due := F_Lrenumbered_due,
    b_Lrenumbered_due := F_Lrenumbered_due.binds (ps := ["_law_lines", "_law_side", "_law_order_here"]) fun _ _ _ _ _ _ us hl => match us, hl with | [_, _, _], _ => rfl,
    m_Lrenumbered_due := PySem.W.mg_of X G a_Lrenumbered_due,
    F_Lturned := F_Lturned,
    b_Lturned := F_Lturned.binds (ps := ["_law_hand_here", "_law_costs", "_law_ladder", "_law_lines"]) fun _ _ _ _ _ _ us hl => match us, hl with | [_, _, _, _], _ => rfl,
    m_Lturned := PySem.W.mg_of X G a_Lturned,
    F_Lcase := F_Lcase,
    b_Lcase := F_Lcase.binds (ps := ["_law_hand_here"]) fun _ _ _ _ _ _ us hl => match us, hl with | [_], _ => rfl,
    m_Lcase := PySem.W.mg_of X G a_Lcase,
    F_law := F_law,
    b_law := F_law.binds (ps := ["_law_script"]) fun _ _ _ _ _ _ us hl => match us, hl with | [_], _ => rfl,
    m_law := PySem.W.mg_of X G a_law,
    m_CallError := PySem.W.mg_of X G a_CallError,
    e_CallError := ⟨x_CallError, k_CallError, b_CallError, t_CallError, i_CallError, s_CallError⟩,
    m_BadLot := PySem.W.mg_of X G a_BadLot,
    u_BadLot_BadSide := u_BadLot_BadSide,
    x_BadLot := ⟨⟨⟨nm_BadLot, qn_BadLot, N_BadLot, bs_BadLot, _, sn_BadLot, sb_BadLot, ab_BadLot, co_BadLot, dd_BadLot, m0_BadLot, m1_BadLot, m2_BadLot, m3_BadLot, m5_BadLot, x_BadLot, rfl⟩, sa_BadLot, b_BadLot, t_BadLot, k_BadLot⟩, a_BadLotu_initu, y_BadLot, i_BadLot, s_BadLot, ⟨ga_BadLot, gg_BadLot, b_BadLot, hd_BadLot⟩⟩,
    n_BadLot_side := n_BadLot_side,
    m_BadSide := PySem.W.mg_of X G a_BadSide,
    e_BadSide := ⟨x_BadSide, k_BadSide, b_BadSide, t_BadSide, i_BadSide, s_BadSide⟩,
    m_BadCosts := PySem.W.mg_of X G a_BadCosts,
    x_BadCosts := ⟨⟨⟨nm_BadCosts, qn_BadCosts, N_BadCosts, bs_BadCosts, _, sn_BadCosts, sb_BadCosts, ab_BadCosts, co_BadCosts, dd_BadCosts, m0_BadCosts, m1_BadCosts, m2_BadCosts, m3_BadCosts, m5_BadCosts, x_BadCosts, rfl⟩, sa_BadCosts, b_BadCosts, t_BadCosts, k_BadCosts⟩, a_BadCostsu_initu, y_BadCosts, i_BadCosts, s_BadCosts, ⟨ga_BadCosts, gg_BadCosts, b_BadCosts, hd_BadCosts⟩⟩,
    n_BadCosts_what := n_BadCosts_what,
    m_Costs := PySem.W.mg_of X G a_Costs,
    o_Costs := ⟨pg_Costs, hd_Costs, po_Costs, sa_Costs⟩,
    k_Costs := ⟨mk_Costs, a_Costsu_initu, fn_Costsu_initu, kp_Costs⟩,
    h_Costsu_equ := ⟨a_Costsu_equ, fn_Costsu_equ, k_Costsu_equ⟩,
    h_Costs_cut := ⟨a_Costs_cut, fn_Costs_cut, k_Costs_cut⟩,
    h_Costs_added := ⟨a_Costs_added, fn_Costs_added, k_Costs_added⟩,
    h_Costs_renumbered := ⟨a_Costs_renumbered, fn_Costs_renumbered, k_Costs_renumbered⟩,
    n_Costs_ladder := n_Costs_ladder,
    n_Costs_lines := n_Costs_lines,
    n_Costs_sides := n_Costs_sides,
    z_ValueError := PySem.W.mg_none_of X G z_ValueError,
    z_abs := PySem.W.mg_none_of X G z_abs,
    z_all := PySem.W.mg_none_of X G z_all,
    z_bool := PySem.W.mg_none_of X G z_bool,
    z_enumerate := PySem.W.mg_none_of X G z_enumerate,
    z_int := PySem.W.mg_none_of X G z_int,
    z_isinstance := PySem.W.mg_none_of X G z_isinstance,
    z_len := PySem.W.mg_none_of X G z_len,
    z_list := PySem.W.mg_none_of X G z_list,
    z_range := PySem.W.mg_none_of X G z_range,
    z_sorted := PySem.W.mg_none_of X G z_sorted,
    z_tuple := PySem.W.mg_none_of X G z_tuple,
    c_EAST := PySem.W.mg_of X G c_EAST,
    c_WEST := PySem.W.mg_of X G c_WEST,
    c_LADDER_MOST := PySem.W.mg_of X G c_LADDER_MOST,
    c_KINDS_MOST := PySem.W.mg_of X G c_KINDS_MOST,
    c_COUPLES_MOST := PySem.W.mg_of X G c_COUPLES_MOST,
    c_COST_MOST := PySem.W.mg_of X G c_COST_MOST,
    i_Costs_ca := zz_i_Costs_ca,
    i_Costs_cn := zz_i_Costs_cn,
    i_Costs_ct := zz_i_Costs_ct,
    i_Costs_cm := zz_i_Costs_cm,
    i_Costs_kt := zz_i_Costs_kt,
    i_Costs_nt := zz_i_Costs_nt,
    i_Costs_ne := zz_i_Costs_ne }
  exact ⟨T.d_law, fun s v => .of_eq rfl, fun base _ _ => ok_law T O⟩
end K49
open PySem PySem.W PyProof.Rows
set_option maxHeartbeats 0 in
theorem PySem.Challenge.cw_risingcalls_k49_costs_made_and_refused_holds : PySem.Challenge.rw_risingcalls_k49_costs_made_and_refused.Holds := by
  w_on; o_law; k_head; (case hw => w_witness2)
  k_fill
  refine L2.walk_of (l := PySem.Challenge.rw_risingcalls_k49_costs_made_and_refused) (n := 63) (k := 10) (x := "_law_script") (CX := fun _ => L2.CX0) (sp := fun w => K49.sp_law _) rfl (by decide) rfl ⟨rfl, by decide, by decide⟩ (fun w h Y => PySem.W.kIn_of Y) ?F (fun _ _ a ns hl _ hS => ⟨a, ns, rfl, hS, hl, fun _ => rfl⟩) (fun _ _ _ _ _ h => h)
  case F =>
    intro w mg fa h KX G hmg
    refine' K49.all_mk KX G hmg ?a_CallError ?a_BadLot ?a_BadSide ?a_BadCosts ?a_Costs ?a_BadLotu_initu ?l_BadLotu_initu ?c_BadLotu_initu ?k_BadLotu_initu ?a_BadCostsu_initu ?l_BadCostsu_initu ?c_BadCostsu_initu ?k_BadCostsu_initu ?a_is_whole ?l_is_whole ?c_is_whole ?k_is_whole ?t_is_whole ?a_is_sequence ?l_is_sequence ?c_is_sequence ?k_is_sequence ?a_check_side ?l_check_side ?c_check_side ?k_check_side ?a_are_sides ?l_are_sides ?c_are_sides ?k_are_sides ?a_are_kinds ?l_are_kinds ?c_are_kinds ?k_are_kinds ?a_is_order ?l_is_order ?c_is_order ?k_is_order ?a_check_side_order ?l_check_side_order ?c_check_side_order ?k_check_side_order ?a_sides_of_lines ?l_sides_of_lines ?c_sides_of_lines ?k_sides_of_lines ?a_renumbered_lines ?l_renumbered_lines ?c_renumbered_lines ?k_renumbered_lines ?a_is_entry ?l_is_entry ?c_is_entry ?k_is_entry ?a_Costsu_initu ?l_Costsu_initu ?c_Costsu_initu ?k_Costsu_initu ?a_Costsu_equ ?l_Costsu_equ ?c_Costsu_equ ?k_Costsu_equ ?a_Costs_cut ?l_Costs_cut ?c_Costs_cut ?k_Costs_cut ?a_Costs_added ?l_Costs_added ?c_Costs_added ?k_Costs_added ?a_Costs_renumbered ?l_Costs_renumbered ?c_Costs_renumbered ?k_Costs_renumbered ?a_Lmix ?l_Lmix ?c_Lmix ?k_Lmix ?a_Lhand ?l_Lhand ?c_Lhand ?k_Lhand ?a_Ldraw ?l_Ldraw ?c_Ldraw ?k_Ldraw ?a_Lwhole ?l_Lwhole ?c_Lwhole ?k_Lwhole ?a_Ldrawn ?l_Ldrawn ?c_Ldrawn ?k_Ldrawn ?a_Ltuples ?l_Ltuples ?c_Ltuples ?k_Ltuples ?a_Llists ?l_Llists ?c_Llists ?k_Llists ?a_Ldue ?l_Ldue ?c_Ldue ?k_Ldue ?a_Lmade ?l_Lmade ?c_Lmade ?k_Lmade ?a_Lspoil_entry ?l_Lspoil_entry ?c_Lspoil_entry ?k_Lspoil_entry ?a_Lspoil_lines ?l_Lspoil_lines ?c_Lspoil_lines ?k_Lspoil_lines ?a_Lrefused ?l_Lrefused ?c_Lrefused ?k_Lrefused ?a_Lcut ?l_Lcut ?c_Lcut ?k_Lcut ?a_Ladded ?l_Ladded ?c_Ladded ?k_Ladded ?a_Ladded_due ?l_Ladded_due ?c_Ladded_due ?k_Ladded_due ?a_Lorder ?l_Lorder ?c_Lorder ?k_Lorder ?a_Lis_order ?l_Lis_order ?c_Lis_order ?k_Lis_order ?a_Lrenumbered ?l_Lrenumbered ?c_Lrenumbered ?k_Lrenumbered ?a_Lrenumbered_due ?l_Lrenumbered_due ?c_Lrenumbered_due ?k_Lrenumbered_due ?a_Lturned ?l_Lturned ?c_Lturned ?k_Lturned ?a_Lcase ?l_Lcase ?c_Lcase ?k_Lcase ?a_law ?l_law ?c_law ?k_law ?k_CallError ?b_CallError ?t_CallError ?i_CallError ?s_CallError ?x_CallError ?u_BadLot_BadSide ?k_BadLot ?b_BadLot ?t_BadLot ?i_BadLot ?s_BadLot ?x_BadLot ?sa_BadLot ?ga_BadLot ?gg_BadLot ?hd_BadLot ?y_BadLot ?n_BadLot_side ?k_BadSide ?b_BadSide ?t_BadSide ?i_BadSide ?s_BadSide ?x_BadSide ?k_BadCosts ?b_BadCosts ?t_BadCosts ?i_BadCosts ?s_BadCosts ?x_BadCosts ?sa_BadCosts ?ga_BadCosts ?gg_BadCosts ?hd_BadCosts ?y_BadCosts ?n_BadCosts_what ?kp_Costs ?pg_Costs ?hd_Costs ?po_Costs ?sa_Costs ?mk_Costs ?fn_Costsu_initu ?fn_Costsu_equ ?fn_Costs_cut ?fn_Costs_added ?fn_Costs_renumbered ?n_Costs_ladder ?n_Costs_lines ?n_Costs_sides ?z_ValueError ?z_abs ?z_all ?z_bool ?z_enumerate ?z_int ?z_isinstance ?z_len ?z_list ?z_range ?z_sorted ?z_tuple ?c_EAST ?c_WEST ?c_LADDER_MOST ?c_KINDS_MOST ?c_COUPLES_MOST ?c_COST_MOST ?zz_i_Costs_ca ?zz_i_Costs_cn ?zz_i_Costs_ct ?zz_i_Costs_cm ?zz_i_Costs_kt ?zz_i_Costs_nt ?zz_i_Costs_ne
    (case a_CallError => k_is)
    (case a_BadLot => k_is)
    (case a_BadSide => k_is)
    (case a_BadCosts => k_is)
    (case a_Costs => k_is)
    (case a_BadLotu_initu => k_is)
    (case l_BadLotu_initu => k_is)
    (case c_BadLotu_initu => k_is)
    (case k_BadLotu_initu => k_is)
    (case a_BadCostsu_initu => k_is)
    (case l_BadCostsu_initu => k_is)
    (case c_BadCostsu_initu => k_is)
    (case k_BadCostsu_initu => k_is)
    (case a_is_whole => k_is)
    (case l_is_whole => k_is)
    (case c_is_whole => k_is)
    (case k_is_whole => k_is)
    (case t_is_whole => k_is)
    (case a_is_sequence => k_is)
    (case l_is_sequence => k_is)
    (case c_is_sequence => k_is)
    (case k_is_sequence => k_is)
    (case a_check_side => k_is)
    (case l_check_side => k_is)
    (case c_check_side => k_is)
    (case k_check_side => k_is)
    (case a_are_sides => k_is)
    (case l_are_sides => k_is)
    (case c_are_sides => k_is)
    (case k_are_sides => k_is)
    (case a_are_kinds => k_is)
    (case l_are_kinds => k_is)
    (case c_are_kinds => k_is)
    (case k_are_kinds => k_is)
    (case a_is_order => k_is)
    (case l_is_order => k_is)
    (case c_is_order => k_is)
    (case k_is_order => k_is)
    (case a_check_side_order => k_is)
    (case l_check_side_order => k_is)
    (case c_check_side_order => k_is)
    (case k_check_side_order => k_is)
    (case a_sides_of_lines => k_is)
    (case l_sides_of_lines => k_is)
    (case c_sides_of_lines => k_is)
    (case k_sides_of_lines => k_is)
    (case a_renumbered_lines => k_is)
    (case l_renumbered_lines => k_is)
    (case c_renumbered_lines => k_is)
    (case k_renumbered_lines => k_is)
    (case a_is_entry => k_is)
    (case l_is_entry => k_is)
    (case c_is_entry => k_is)
    (case k_is_entry => k_is)
    (case a_Costsu_initu => k_is)
    (case l_Costsu_initu => k_is)
    (case c_Costsu_initu => k_is)
    (case k_Costsu_initu => k_is)
    (case a_Costsu_equ => k_is)
    (case l_Costsu_equ => k_is)
    (case c_Costsu_equ => k_is)
    (case k_Costsu_equ => k_is)
    (case a_Costs_cut => k_is)
    (case l_Costs_cut => k_is)
    (case c_Costs_cut => k_is)
    (case k_Costs_cut => k_is)
    (case a_Costs_added => k_is)
    (case l_Costs_added => k_is)
    (case c_Costs_added => k_is)
    (case k_Costs_added => k_is)
    (case a_Costs_renumbered => k_is)
    (case l_Costs_renumbered => k_is)
    (case c_Costs_renumbered => k_is)
    (case k_Costs_renumbered => k_is)
    (case a_Lmix => k_is)
    (case l_Lmix => k_is)
    (case c_Lmix => k_is)
    (case k_Lmix => k_is)
    (case a_Lhand => k_is)
    (case l_Lhand => k_is)
    (case c_Lhand => k_is)
    (case k_Lhand => k_is)
    (case a_Ldraw => k_is)
    (case l_Ldraw => k_is)
    (case c_Ldraw => k_is)
    (case k_Ldraw => k_is)
    (case a_Lwhole => k_is)
    (case l_Lwhole => k_is)
    (case c_Lwhole => k_is)
    (case k_Lwhole => k_is)
    (case a_Ldrawn => k_is)
    (case l_Ldrawn => k_is)
    (case c_Ldrawn => k_is)
    (case k_Ldrawn => k_is)
    (case a_Ltuples => k_is)
    (case l_Ltuples => k_is)
    (case c_Ltuples => k_is)
    (case k_Ltuples => k_is)
    (case a_Llists => k_is)
    (case l_Llists => k_is)
    (case c_Llists => k_is)
    (case k_Llists => k_is)
    (case a_Ldue => k_is)
    (case l_Ldue => k_is)
    (case c_Ldue => k_is)
    (case k_Ldue => k_is)
    (case a_Lmade => k_is)
    (case l_Lmade => k_is)
    (case c_Lmade => k_is)
    (case k_Lmade => k_is)
    (case a_Lspoil_entry => k_is)
    (case l_Lspoil_entry => k_is)
    (case c_Lspoil_entry => k_is)
    (case k_Lspoil_entry => k_is)
    (case a_Lspoil_lines => k_is)
    (case l_Lspoil_lines => k_is)
    (case c_Lspoil_lines => k_is)
    (case k_Lspoil_lines => k_is)
    (case a_Lrefused => k_is)
    (case l_Lrefused => k_is)
    (case c_Lrefused => k_is)
    (case k_Lrefused => k_is)
    (case a_Lcut => k_is)
    (case l_Lcut => k_is)
    (case c_Lcut => k_is)
    (case k_Lcut => k_is)
    (case a_Ladded => k_is)
    (case l_Ladded => k_is)
    (case c_Ladded => k_is)
    (case k_Ladded => k_is)
    (case a_Ladded_due => k_is)
    (case l_Ladded_due => k_is)
    (case c_Ladded_due => k_is)
    (case k_Ladded_due => k_is)
    (case a_Lorder => k_is)
    (case l_Lorder => k_is)
    (case c_Lorder => k_is)
    (case k_Lorder => k_is)
    (case a_Lis_order => k_is)
    (case l_Lis_order => k_is)
    (case c_Lis_order => k_is)
    (case k_Lis_order => k_is)
    (case a_Lrenumbered => k_is)
    (case l_Lrenumbered => k_is)
    (case c_Lrenumbered => k_is)
    (case k_Lrenumbered => k_is)
    (case a_Lrenumbered_due => k_is)
    (case l_Lrenumbered_due => k_is)
    (case c_Lrenumbered_due => k_is)
    (case k_Lrenumbered_due => k_is)
    (case a_Lturned => k_is)
    (case l_Lturned => k_is)
    (case c_Lturned => k_is)
    (case k_Lturned => k_is)
    (case a_Lcase => k_is)
    (case l_Lcase => k_is)
    (case c_Lcase => k_is)
    (case k_Lcase => k_is)
    (case a_law => k_is)
    (case l_law => k_is)
    (case c_law => k_is)
    (case k_law => k_is)
    (case k_CallError => k_is)
    (case b_CallError => k_is)
    (case t_CallError => k_is)
    (case i_CallError => k_is)
    (case s_CallError => first | rfl | k_is)
    (case x_CallError => k_exc)
    (case u_BadLot_BadSide => first | rfl | k_is)
    (case k_BadLot => k_is)
    (case b_BadLot => k_is)
    (case t_BadLot => k_is)
    (case i_BadLot => k_is)
    (case s_BadLot => first | rfl | k_is)
    (case x_BadLot => k_is)
    (case sa_BadLot => k_is)
    (case ga_BadLot => k_is)
    (case gg_BadLot => k_is)
    (case hd_BadLot => k_is)
    (case y_BadLot => k_is)
    (case n_BadLot_side => k_is)
    (case k_BadSide => k_is)
    (case b_BadSide => k_is)
    (case t_BadSide => k_is)
    (case i_BadSide => k_is)
    (case s_BadSide => first | rfl | k_is)
    (case x_BadSide => k_exc)
    (case k_BadCosts => k_is)
    (case b_BadCosts => k_is)
    (case t_BadCosts => k_is)
    (case i_BadCosts => k_is)
    (case s_BadCosts => first | rfl | k_is)
    (case x_BadCosts => k_is)
    (case sa_BadCosts => k_is)
    (case ga_BadCosts => k_is)
    (case gg_BadCosts => k_is)
    (case hd_BadCosts => k_is)
    (case y_BadCosts => k_is)
    (case n_BadCosts_what => k_is)
    (case kp_Costs => k_is)
    (case pg_Costs => k_is)
    (case hd_Costs => k_is)
    (case po_Costs => k_is)
    (case sa_Costs => k_is)
    (case mk_Costs => k_is)
    (case fn_Costsu_initu => k_is)
    (case fn_Costsu_equ => k_is)
    (case fn_Costs_cut => k_is)
    (case fn_Costs_added => k_is)
    (case fn_Costs_renumbered => k_is)
    (case n_Costs_ladder => k_is)
    (case n_Costs_lines => k_is)
    (case n_Costs_sides => k_is)
    (case z_ValueError => k_is)
    (case z_abs => k_is)
    (case z_all => k_is)
    (case z_bool => k_is)
    (case z_enumerate => k_is)
    (case z_int => k_is)
    (case z_isinstance => k_is)
    (case z_len => k_is)
    (case z_list => k_is)
    (case z_range => k_is)
    (case z_sorted => k_is)
    (case z_tuple => k_is)
    (case c_EAST => k_is)
    (case c_WEST => k_is)
    (case c_LADDER_MOST => k_is)
    (case c_KINDS_MOST => k_is)
    (case c_COUPLES_MOST => k_is)
    (case c_COST_MOST => k_is)
    (case zz_i_Costs_ca => k_is)
    (case zz_i_Costs_cn => k_is)
    (case zz_i_Costs_ct => k_is)
    (case zz_i_Costs_cm => k_is)
    (case zz_i_Costs_kt => first | rfl | kernel_rfl)
    (case zz_i_Costs_nt => k_is)
    (case zz_i_Costs_ne => k_is)

