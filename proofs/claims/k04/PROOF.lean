import PyProof.Rows.All
import Wide.All
import OpenK.AllK
import Wide.FinOn
import PyProof.EqAt
import PyProof.EqKinds
import PyProof.TupleCall
import HandS.ForMost
import HandS.ForExc
import HandS.Wide
import HandS.IsInst
import HandS.SortInts
import HandS.Strs
import HandS.SetFor
import HandS.Conv
import HandS.Small
import HandS.Defaults
import HandS.Walk
import HandS.Flow
import HandS.Codes
import HandS.ExcInit
import HandS.ExcField
import HandS.Style
import HandS.TryMany
import PySem.Challenge.RW_risingcalls_k04_whole_goals_made_of_goal
set_option Elab.async false
set_option linter.all false
set_option maxRecDepth 100000
set_option maxHeartbeats 2000000

/-! ### my words for readings: one lemma a construct, by the head of the reading -/
namespace Jv
open PySem PySem.Spec PyProof.Rows L2
section
variable {K : PySem.W.Frag} {σ : L2.St} {H : Hp} {D : Ends} {t u : TS} {te ta tb tc : TE} {g : TG} {tt tu : TT} {tA : TA} {i : Nat} {v x y z : V} {Q : VK} {R : Bool → Hp → Prop}
theorem r_seq (h : t { D with nx := u D } σ H) : tSeq t u D σ H := h
theorem r_asg (h : te σ H fun x H1 => g x σ H1 D.nx) : tAsg te g D σ H := h
theorem r_gn {Q : L2.St → Hp → Prop} (h : Q (σ.set i (some v)) H) : gName i v σ H Q := h
theorem r_ret (h : te σ H D.rt) : tRet te D σ H := h
theorem r_retN (h : D.rt .non H) : tRetN D σ H := h
theorem r_drop (h : te σ H fun _ H1 => D.nx σ H1) : tDrop te D σ H := h
theorem r_if (h : tt σ H fun b H1 => if b = true then t D σ H1 else u D σ H1) : tIfS tt t u D σ H := h
theorem r_next (h : D.nx σ H) : tNext D σ H := h
theorem r_brk (h : D.bk σ H) : tBreak D σ H := h
theorem r_cont (h : D.ct σ H) : tCont D σ H := h
theorem r_var (h : σ[i]? = some (some v)) (q : Q v H) : tVar i σ H Q := ⟨v, h, q⟩
theorem r_c (q : Q v H) : tC v σ H Q := q
theorem r_op {r : R2} (h : ta σ H fun x H1 => tb σ H1 fun y H2 => r x y H2 Q) : tOp r ta tb σ H Q := h
theorem r_un {r : V → Hp → VK → Prop} (h : ta σ H fun x H1 => r x H1 Q) : tUn r ta σ H Q := h
theorem r_I {C : Int → Int → Prop} {f : Int → Int → V} {a b : Int} (c : C a b) (q : Q (f a b) H) : rI C f (.int a) (.int b) H Q := ⟨a, b, rfl, rfl, c, q⟩
theorem r_I0 {f : Int → Int → V} {a b : Int} (q : Q (f a b) H) : rI0 f (.int a) (.int b) H Q := ⟨a, b, rfl, rfl, q⟩
theorem r_U {f : Int → V} {a : Int} (q : Q (f a) H) : rU f (.int a) H Q := ⟨a, rfl, q⟩
theorem r_eq (s : scal x y = true) (q : Q (.bl (decide (x = y))) H) : rEq x y H Q := ⟨s, q⟩
theorem r_ne (s : scal x y = true) (q : Q (.bl (!decide (x = y))) H) : rNe x y H Q := ⟨s, q⟩
theorem r_test (h : te σ H fun x H1 => ∃ k, x = .bl k ∧ R k H1) : tTest te σ H R := h
theorem r_B (h : te σ H fun x H1 => ∃ k, x = .bl k ∧ R k H1) : tB te σ H R := h
theorem r_bl {b : Bool} {P : Bool → Prop} (q : P b) : ∃ k, V.bl b = .bl k ∧ P k := ⟨b, rfl, q⟩
theorem r_and (h : tt σ H fun c H1 => if c = true then tu σ H1 R else R false H1) : tAnd tt tu σ H R := h
theorem r_or (h : tt σ H fun c H1 => if c = true then R true H1 else tu σ H1 R) : tOr tt tu σ H R := h
theorem r_not (h : tt σ H fun c H1 => R (!c) H1) : tNot tt σ H R := h
theorem r_andV (h : ta σ H fun x H1 => ∃ c, x = .bl c ∧ if c = true then tb σ H1 Q else Q (.bl false) H1) : tAndV ta tb σ H Q := h
theorem r_orV (h : ta σ H fun x H1 => ∃ c, x = .bl c ∧ if c = true then Q (.bl true) H1 else tb σ H1 Q) : tOrV ta tb σ H Q := h
theorem r_notV (h : ta σ H fun x H1 => ∃ c, x = .bl c ∧ Q (.bl (!c)) H1) : tNotV ta σ H Q := h
theorem r_ife (h : tt σ H fun c H1 => if c = true then ta σ H1 Q else tb σ H1 Q) : tIf tt ta tb σ H Q := h
theorem r_chain {r r' : R2} (h : ta σ H fun x H1 => tb σ H1 fun y H2 => r x y H2 fun z H3 => ∃ k, z = .bl k ∧
  (if k = true then tc σ H3 fun w' H4 => r' y w' H4 Q else Q (.bl false) H3)) : tChain r r' ta tb tc σ H Q := h
theorem r_nil {P : List V → Hp → Prop} (q : P [] H) : tNil σ H P := q
theorem r_cons {P : List V → Hp → Prop} (h : ta σ H fun x H1 => tA σ H1 fun xs H2 => P (x :: xs) H2) : tCons ta tA σ H P := h
theorem r_tup (h : tA σ H fun xs H1 => xs.length ≤ sizeLine ∧ ∀ p, H1 p = none → Q (.ref p) (upd H1 p (.tup xs))) : tTup tA σ H Q := h
theorem r_lst (h : tA σ H fun xs H1 => xs.length ≤ sizeLine ∧ ∀ p, H1 p = none → Q (.ref p) (upd H1 p (.lst xs))) : tLst tA σ H Q := h
theorem r_new {n : Nat} {P : Prop} (h1 : n ≤ 1000) (q : P) : n ≤ sizeLine ∧ P := ⟨Nat.le_trans h1 (by decide), q⟩
theorem r_CB {r : List V → Hp → VK → Prop} (h : tA σ H fun vs H1 => r vs H1 Q) : tCB r tA σ H Q := h
theorem r_call {sp : Sp} {dvs : List V} {E : XK} (h : tA σ H fun vs H1 => sp (vs ++ dvs) H1 Q E) : tCall sp dvs E tA σ H Q := h
theorem r_callS {sp : Sp} {E : L2.St → XK} (h : tA σ H fun vs H1 => sp vs H1 Q (E σ)) : tCallS sp E tA σ H Q := h
theorem r_for {wi : TI} (h : wi σ H fun J H1 => ∃ W : Nat → Nat → L2.St → Hp → Prop, (∃ m, W 0 m σ H1) ∧ ∀ i m σ H, W i m σ H →
  (J.stop i H ∧ D.nx σ H) ∨ (J.go i H ∧ ∃ N : L2.St → Hp → Prop, (∀ σ' H', N σ' H' → ∃ m', m' < m ∧ W (i + 1) m' σ' H') ∧ ∀ x H', J.yld i H x H' → g x σ H' fun σ2 H2 => t { D with nx := N, ct := N, bk := D.nx } σ2 H2)) : tFor wi g t D σ H := h
theorem r_iR1 {P : It → Hp → Prop} (h : tA σ H fun vs H1 => ∃ j : Int, vs = [.int j] ∧ -(2 ^ 62) ≤ j ∧ j < 2 ^ 62 ∧ P (Itr 0 j.toNat) H1) : iRng1 tA σ H P := h
theorem r_iR2 {P : It → Hp → Prop} (h : tA σ H fun vs H1 => ∃ i j : Int, vs = [.int i, .int j] ∧ (-(2 ^ 62) ≤ i ∧ i < 2 ^ 62 ∧ -(2 ^ 62) ≤ j ∧ j < 2 ^ 62) ∧ P (Itr i (j - i).toNat) H1) : iRng2 tA σ H P := h
theorem r_sub {to ti : TE} {w : TSet} {Q : L2.St → Hp → Prop} (h : to σ H fun o H1 => ti σ H1 fun i H2 => w o i v H2 fun H3 => Q σ H3) : gSub to ti w v σ H Q := h
theorem r_ixL {p : Addr} {xs : List V} {k : Int} (h : SqL K H p xs) (e : atI xs k = some v) (q : Q v H) : rIxL K (.ref p) (.int k) H Q := ⟨p, xs, k, v, rfl, rfl, h, e, q⟩
theorem r_ixT {p : Addr} {xs : List V} {k : Int} (h : SqT K H p xs) (e : atI xs k = some v) (q : Q v H) : rIxT K (.ref p) (.int k) H Q := ⟨p, xs, k, v, rfl, rfl, h, e, q⟩
theorem r_setL {p : Addr} {xs : List V} {k : Int} {j : Nat} {P : Hp → Prop} (h : H p = some (.lst xs)) (e : ixN xs.length k = some j) (q : P (upd H p (.lst (xs.set j v)))) : rSetL (.ref p) (.int k) v H P := ⟨p, xs, k, j, rfl, rfl, h, e, q⟩
theorem r_true {A B : Prop} {c : Bool} (e : c = true) (h : A) : if c = true then A else B := by rw [if_pos e]; exact h
theorem r_false {A B : Prop} {c : Bool} (e : c = false) (h : B) : if c = true then A else B := by rw [e, if_neg Bool.false_ne_true]; exact h
theorem r_dec {A B p : Prop} {_ : Decidable p} (h1 : p → A) (h2 : ¬ p → B) : if decide p = true then A else B := by
  by_cases h : p
  · exact r_true (decide_eq_true h) (h1 h)
  · exact r_false (decide_eq_false h) (h2 h)
theorem r_ndec {A B p : Prop} {_ : Decidable p} (h1 : ¬ p → A) (h2 : p → B) : if (!decide p) = true then A else B := by
  by_cases h : p
  · exact r_false (by rw [decide_eq_true h]; rfl) (h2 h)
  · exact r_true (by rw [decide_eq_false h]; rfl) (h1 h)
theorem r_bool {A B : Prop} {c : Bool} (h1 : c = true → A) (h2 : c = false → B) : if c = true then A else B := by
  cases c
  · exact r_false rfl (h2 rfl)
  · exact r_true rfl (h1 rfl)
theorem r_int {a : Int} {P : Int → Prop} {P' : Bool → Prop} (q : P a) : (∃ i, [V.int a] = [.int i] ∧ P i) ∨ ∃ k, [V.int a] = [.bl k] ∧ P' k := .inl ⟨a, rfl, q⟩
theorem small_of {n : Nat} (h : n ≤ 1000) : n ≤ sizeLine := Nat.le_trans h (by decide)
theorem small_lt {n : Nat} (h : n < 1000) : n < sizeLine := Nat.lt_of_lt_of_le h (by decide)
/-- what stands ahead of a new object, stands behind it -/
theorem kp {a p : Addr} {o u : HO} (h : H a = some o) (n : H p = none) : upd H p u a = some o := by rw [upd_ne (ne_of_none h n)]; exact h
theorem kpO {a l : Addr} {o u : HO} (h : H a = some o) (n : a ≠ l) : upd H l u a = some o := by rw [upd_ne n]; exact h
theorem same_new {p : Addr} {u : HO} (n : H p = none) : Same H (upd H p u) := fun _ _ e => kp e n
theorem Same.sqT {H' : Hp} {a : Addr} {xs : List V} (e : Same H H') (h : SqT K H a xs) : SqT K H' a xs := by
  rcases h with (h | ⟨o, h⟩) | h
  · exact .inl (.inl (e _ _ h))
  · exact .inl (.inr ⟨o, e _ _ h⟩)
  · exact .inr h
end
end Jv

/-! ### rules that the layer lacks: set(x), sorted(x) of a list or a tuple of ints; X() of an own exception; what the top says of exceptions -/
namespace JvS
open PySem PySem.Spec PyProof.Rows L2 SrtO
section
variable {P : Program} {w : World} {A : Around} {E : Value → Shared → Prop} {s : Shared}
/-- the empty set that set() begins with -/
abbrev emptyS (w : World) : Obj := { cls := .type "set", dict := none, data := .set #[] 0 (.fresh 0 0 (!w.params.followText "set-order")) }
theorem set_listI {l : Addr} {items : Array Value} (ns : List Int) {Q : Value → Shared → Prop} (hh : A.handled = none) (hl : s.heap.IsList l items) (hv : IntsAre items.toList ns) (few : ns.length + 1 < scanBound)
    (h : ∀ (h' : Heap) (tk c : Nat), SetR w h' s.heap.objs.size (fun j => decide (j ∈ ns)) c → c ≤ ns.length → (∀ b o, s.heap.get? b = some o → h'.get? b = some o) → Q (.ref s.heap.objs.size) { s with heap := h', toks := tk }) :
    wpAny (model P w) A (call (.type "set") [.ref l]) Q E s := by
  have sz : items.size = ns.length := by simpa using IntsAre.length hv
  obtain ⟨cM, tM, eM⟩ := F.called_set.mro
  have e1 := F.called_set.made; have e2 := F.called_set.sub; have e3 := F.called_set.notType; have e4 := F.called_set.canCreate; have e5 := F.typeCall_set_1 (.ref l)
  refine wpAny_call (codeAny_of_tree (show wpAny _ _ (callAny (.type "set") _) _ _ _ from wpAny_pure ⟨Code.quiet_builtin _ (by decide +kernel), codeAny_builtin F.entry_type_call ?_⟩))
  rw [Around.under_plain (weight_type_call_type "set" [.ref l] []) rfl]
  repeat any_goals (first | wp_step | assumption)
  refine codeAny_mono (code_set_led1 (P := P) (.ref l) (E := E) (Q₁ := fun v s1 => v = .ref s.heap.objs.size ∧ s1 = { s with heap := s.heap.push (emptyS w) }) ⟨rfl, rfl⟩) fun r s1 hr => ?_
  cases r with
  | error e => exact hr
  | ok fl =>
    cases fl with
    | next => exact hr.elim
    | brk => exact hr.elim
    | cont => exact hr.elim
    | ret v =>
      obtain ⟨rfl, rfl⟩ := hr
      have atS : (s.heap.push (emptyS w)).get? s.heap.objs.size = some (emptyS w) := Heap.get?_push_size _ rfl
      have tyS : Shared.TypeIs { s with heap := s.heap.push (emptyS w) } (.ref s.heap.objs.size) "set" := ⟨_, atS, rfl⟩
      have e6 := F.called_set.init.lookup; have e7 := F.called_set.init.bind (.ref s.heap.objs.size)
      repeat any_goals (first | wp_step | assumption)
      refine codeAny_mono (codeAny_call_builtin (R := wants (fun r s2 => r = .none ∧ ∃ h' tk c, s2 = { s with heap := h', toks := tk } ∧ SetR w h' s.heap.objs.size (fun j => decide (j ∈ ns)) c ∧ c ≤ ns.length ∧
        ∀ b o, s.heap.get? b = some o → h'.get? b = some o) E) F.called_set.init.plain F.entry_set_init (check_set_init_1 tyS ?_)) fun r2 s2 hr2 => ?_
      · have old : ∀ b o, s.heap.get? b = some o → (s.heap.push (emptyS w)).get? b = some o := fun b o q => Heap.get?_push_of_some _ q
        have lS : l < s.heap.objs.size := by obtain ⟨o, q, _⟩ := hl; exact Heap.lt_size q
        obtain ⟨⟨oc, od, dt, sl⟩, ol, q1, n1, q2⟩ := hl
        simp only at q1 q2; subst q1 q2
        have ol2 := old _ _ ol
        have isl : (s.heap.push (emptyS w)).IsList l items := ⟨_, ol2, rfl, n1, rfl⟩
        have b1 := F.sub_list_set; have b2 := F.sub_list_frozenset; have b3 : (Value.type "list" == Value.type "dict") = false := by decide
        unfold Builtin.«set.__init__» noKeywords Builtin.Frozenset.updateFrom
        generalize walkIt : pyIter = PI
        wp_walk
        subst walkIt
        refine wpAny_pyIter_list isl (wpAny_bind (wpAny_runValue ?_))
        have more : (s.heap.push (emptyS w)).objs.size = s.heap.objs.size + 1 := Heap.size_push ..
        have hh3 : A.in1.in1.in1.handled = none := by simp [hh]
        have lI : l ≠ (s.heap.push (emptyS w)).objs.size := by rw [more]; exact Nat.ne_of_lt (Nat.lt_succ_of_lt lS)
        have nS : s.heap.objs.size ∉ [(s.heap.push (emptyS w)).objs.size, l] := by
          rw [more]; simp only [List.mem_cons, List.not_mem_nil, or_false, not_or]
          exact ⟨Nat.ne_of_lt (Nat.lt_succ_self _), Nat.ne_of_gt lS⟩
        refine set_update_ints ((Walks.list hh3 _ l lI items).toS) s.heap.objs.size nS ns sz few (fun i v q => ?_) (items.size - 0) 0 _ (by omega) (Nat.zero_le _) ⟨⟨_, Heap.get?_push_size _ rfl, rfl, rfl⟩, isl.push _⟩ ⟨0, Nat.le_refl 0, setR_new_at (Heap.get?_push_of_some _ atS)⟩ fun s3 c hm hc hS => ?_
        · have hi : i < ns.length := by rw [← sz]; exact (Array.getElem?_eq_some_iff.mp q).1
          obtain ⟨t, e⟩ := PyProof.Rows.IntsAre.int_at hv i v (by rw [Array.getElem?_toList]; exact q)
          exact ⟨ns[i], t, List.getElem?_eq_getElem hi, by rw [e, List.getD_eq_getElem?_getD, List.getElem?_eq_getElem hi]; rfl⟩
        · obtain ⟨h3, g3, d3, t3, o3⟩ := s3
          obtain rfl : g3 = s.gens := hm.gens
          obtain rfl : d3 = s.drawn := hm.drawn
          obtain rfl : o3 = s.os := hm.os
          rw [sz] at hc
          refine wpAny_pure (show wpAny _ _ (ret Value.none) _ _ _ from wpAny_pure ⟨rfl, h3, t3, c, rfl, hS, hc, fun b o e => ?_⟩)
          have lb : b < s.heap.objs.size := Heap.lt_size e
          exact hm.heap b o (by
            rw [more]; simp only [List.mem_cons, List.not_mem_nil, or_false, not_or]
            exact ⟨Nat.ne_of_lt lb, Nat.ne_of_lt (Nat.lt_succ_of_lt lb)⟩) (Heap.get?_push_of_some _ (old _ _ e))
      · cases r2 with
        | error e => exact hr2
        | ok f2 =>
          cases f2 with
          | next => exact hr2.elim
          | brk => exact hr2.elim
          | cont => exact hr2.elim
          | ret r =>
            obtain ⟨rfl, h', tk, c, rfl, hS, hc, keep⟩ := hr2
            repeat any_goals (first | wp_step | assumption)
            exact h _ _ _ hS hc keep
end
end JvS
namespace Jv
open PySem PySem.Spec PyProof.Rows L2
section
variable {X : Cx}
/-- set(x), x a list or a tuple of ints -/
def rSetI (K : PySem.W.Frag) (w : World) : List V → Hp → VK → Prop := fun xs H Q => ∃ (l : Addr) (ns : List Int), xs = [.ref l] ∧ (SqL K H l (ns.map V.int) ∨ SqT K H l (ns.map V.int)) ∧ ns.length ≤ 1000 ∧
  ∀ p c, H p = none → c ≤ ns.length → Q (.ref p) (upd H p (SetO w p (fun j => decide (j ∈ ns)) c))
theorem cr_setI (hc : X.calm = true) : CallR X (.type "set") (rSetI X.K X.w) := by
  intro pins s σ H xs us Q I r h
  obtain ⟨l, ns, rfl, hs, few, q⟩ := h
  rw [Vals.ref1 r]
  have fin : ∀ (h' : Heap) (tk c : Nat), SetR X.w h' s.heap.objs.size (fun j => decide (j ∈ ns)) c → c ≤ ns.length → (∀ b o, s.heap.get? b = some o → h'.get? b = some o) →
      EP X pins σ Q (.ref s.heap.objs.size) { s with heap := h', toks := tk } := fun h' tk c R hcn keep =>
    ⟨.ref s.heap.objs.size, upd H s.heap.objs.size (SetO X.w s.heap.objs.size (fun j => decide (j ∈ ns)) c), I.laid (t' := tk) keep (Nat.le_refl _) (setO_new R), rfl, q _ c (I.hok.fresh (Nat.le_refl _)) hcn⟩
  rcases hs with hs | hs
  · obtain ⟨its, rv, hl, hz⟩ := I.list hs
    exact JvS.set_listI ns (I.ok.hd hc) hl.isList (by simpa using ints_of_vals rv) (by unfold scanBound; omega) fin
  · obtain ⟨its, rv, ht, hz⟩ := I.tuple hs
    exact call_set_tupI ns (I.ok.hd hc) (show s.heap.IsTuple l its.toArray from ht) (by simpa using ints_of_vals rv) (by unfold scanBound; omega) fin
/-- either of two rules for a call -/
theorem crOr {f : Value} {r r' : List V → Hp → VK → Prop} (h : CallR X f r) (h' : CallR X f r') : CallR X f (fun xs H Q => r xs H Q ∨ r' xs H Q) := fun pins s σ H xs us Q I rv q =>
  q.elim (fun q => h pins s σ H xs us Q I rv q) fun q => h' pins s σ H xs us Q I rv q
end
/-- an own error class without an __init__ of its own -/
structure ExcP (K : PySem.W.Frag) (C : Addr) : Prop where
  x : PySem.W.excIn K C [.type "ValueError", .type "Exception", .type "BaseException", .type "object"] "ValueError.__new__" = true
  k : PySem.W.keepIn K (.ref C) = true
  b : PySem.W.subIn K (.ref C) (.type "BaseException") = some true
  t : PySem.W.typeIn K (.ref C) = some (.type "type")
  i : PySem.W.isClsIn K C = true
  s : PySem.W.subIn K (.ref C) (.ref C) = some true
theorem exm_of {K : PySem.W.Frag} {C : Addr} (b : PySem.W.subIn K (.ref C) (.type "BaseException") = some true) (i : PySem.W.isClsIn K C = true) (t : PySem.W.typeIn K (.ref C) = some (.type "type")) (s : PySem.W.subIn K (.ref C) (.ref C) = some true) :
    PySem.W.exmOne K (.ref C) (.ref C) = some true := by
  have i' : (PySem.W.clsIn K C).isSome = true := i
  unfold PySem.W.exmOne PySem.W.kitCls
  simp [b, i', t, s]
theorem ExcP.e {K : PySem.W.Frag} {C : Addr} (h : ExcP K C) : PySem.W.exmOne K (.ref C) (.ref C) = some true := exm_of h.b h.i h.t h.s
theorem ExcP.raises {X : Cx} {C : Addr} (h : ExcP X.K C) : Raises X (.ref C) := raises_own h.b h.t
/-- .. with one, at fI -/
structure ExcI (K : PySem.W.Frag) (C fI : Addr) : Prop where
  o : OexC K C
  n : PySem.W.findIn K (.ref C) "__init__" = some (some (.ref fI))
  y : PySem.W.typeIn K (.ref fI) = some (.type "function")
  i : PySem.W.isClsIn K C = true
  s : PySem.W.subIn K (.ref C) (.ref C) = some true
  f : XfC K C
theorem ExcI.e {K : PySem.W.Frag} {C fI : Addr} (h : ExcI K C fI) : PySem.W.exmOne K (.ref C) (.ref C) = some true := exm_of h.o.exC h.i h.o.tyC h.s
section
variable {X : Cx}
/-- X() -/
theorem pmk_own0 {C : Addr} {bmB : List Value} {B newId initId : String} {x : Str} {p pos : Pos} (F : ExcBaseFacts B newId initId bmB) (q : PySem.W.excIn X.K C bmB newId = true) (gC : X.mg x = some (.ref C))
    (kC : PySem.W.keepIn X.K (.ref C) = true) (r : Raises X (.ref C)) (hg : Gl X x) (hdb : (x == ("__debug__" : Str)) = false := by decide) : PMk X (.Call (.Name x p) [] [] pos) (fun _ H Q => Q (.ref C) none H) := by
  intro pins s σ H Q I h
  refine wpAny_Call_Name_kw (ld_glob I hg gC (PySem.W.callWith_K0 I.kIn kC ?_) hdb)
  obtain ⟨bm, N, nm, qn, bs, hdct, sn, sub, ab, col, dd, k0, k1, k2, k3, k5, mN, hC, hN, hni, T⟩ := exc_obj I.kIn q
  exact wpAny_call_exc_subT F T hC hN hni (fun h' e hm => mk_of I hm r h (I.hok.gone hm.new)) (Nat.zero_le _)
end
end Jv

/-! ### binding with defaults -/
namespace Jv
open PySem PySem.Spec PyProof.Rows L2
section
variable {K : PySem.W.Frag} {fd : FuncData} {ps : List Str} {T : Addr} {o : Obj} {its : Array Value} {n : Nat}
theorem bindsD {ds : List Value} {m : Nat} (l : K.lookup T = some o) (hd : o.data = .seq its n) (hm : m + ds.length = ps.length)
    (h : ∀ us : List Value, us.length = m → ∃ k, bindArgs fd ⟨us, []⟩ = seqItems? (.ref T) >>= k ∧ k (some its) = pure (ps.zip (us ++ ds))) : Binds K fd ps ds := fun s us X hl => by
  obtain ⟨k, e1, e2⟩ := h us (by rw [List.length_append] at hl; omega)
  refine BindsTo.of_looks fun M => ?_
  rw [e1]
  exact looks_items X l hd (.of_pure e2)
theorem kbD {m : Nat} {ks : List Str} {g : List Value → List Value → List Value} {gV : List V → List V → List V} (l : K.lookup T = some o) (hd : o.data = .seq its n)
    (h : ∀ us ws : List Value, us.length = m → ws.length = ks.length → ∃ k, bindArgs fd ⟨us, ks.zip ws⟩ = seqItems? (.ref T) >>= k ∧ k (some its) = pure (ps.zip (g us ws)))
    (rel : ∀ {vs : List V} {us : List Value} {zs : List V} {ws : List Value}, Vals vs us → Vals zs ws → Vals (gV vs zs) (g us ws)) : KBn K fd ps m ks g gV := by
  refine ⟨fun s us ws X h1 h2 => ?_, rel⟩
  obtain ⟨k, e1, e2⟩ := h us ws h1 h2
  refine BindsTo.of_looks fun M => ?_
  rw [e1]
  exact looks_items X l hd (.of_pure e2)
end
end Jv
namespace Jv
open PySem PySem.Spec PyProof.Rows L2
section
variable {K : PySem.W.Frag} {σ : L2.St} {H : Hp} {D : Ends} {t u : TS} {te ta tb tc : TE} {g : TG} {tt tu : TT} {tA : TA} {i : Nat} {v x y z : V} {Q : VK} {R : Bool → Hp → Prop}
theorem r_gtup {T : Addr} {xs : List V} {n : Nat} {gs : TGs} {Q : L2.St → Hp → Prop} (h : SqT K H T xs) (hl : xs.length = n) (q : gs xs σ H Q) : gTup K n gs (.ref T) σ H Q := ⟨T, xs, rfl, h, hl, q⟩
theorem r_gcons {gs : TGs} {xs : List V} {Q : L2.St → Hp → Prop} (q : g v σ H fun σ' H' => gs xs σ' H' Q) : gCons g gs (v :: xs) σ H Q := ⟨v, xs, rfl, q⟩
theorem r_gnil {Q : L2.St → Hp → Prop} (q : Q σ H) : gNil [] σ H Q := ⟨rfl, q⟩
theorem r_lc {wi : TI} {vs : List Nat} (h : wi σ H fun J H1 => ∀ D, H1 D = none → ∃ W : Nat → Nat → Hp → Prop, (∃ m, W 0 m (upd H1 D (.lst []))) ∧ ∀ i m H, W i m H →
  (J.stop i H ∧ Q (.ref D) H) ∨ (J.go i H ∧ ∃ Nx : Hp → Prop, (∀ H', Nx H' → ∃ m', m' < m ∧ W (i + 1) m' H') ∧ ∀ x H', J.yld i H x H' → g x (wipe σ vs) H' fun σ2 H2 => wipe σ2 vs = wipe σ vs ∧ tt σ2 H2 fun b H3 =>
    if b = true then te σ2 H3 fun y H4 => ∃ acc, H4 D = some (.lst acc) ∧ acc.length < sizeLine ∧ Nx (upd H4 D (.lst (acc ++ [y]))) else Nx H3)) : tLc wi g tt te vs σ H Q := h
theorem r_iE {P : It → Hp → Prop} {a : Addr} {xs : List V} (h : SqL K H a xs) (q : P (Ite K a) H) : ∃ b ys, [V.ref a] = [.ref b] ∧ SqL K H b ys ∧ P (Ite K b) H := ⟨a, xs, rfl, h, q⟩
theorem r_iEn {P : It → Hp → Prop} (h : tA σ H fun vs H1 => ∃ b ys, vs = [.ref b] ∧ SqL K H1 b ys ∧ P (Ite K b) H1) : iEnum K tA σ H P := h
theorem r_iL {P : It → Hp → Prop} (h : te σ H fun x H1 => ∃ a, x = .ref a ∧ (∃ xs, SqL K H1 a xs) ∧ P (Itl K a) H1) : iList K te σ H P := h
theorem r_iT {P : It → Hp → Prop} (h : te σ H fun x H1 => ∃ a, x = .ref a ∧ (∃ xs, SqT K H1 a xs) ∧ P (Itt K a) H1) : iTup K te σ H P := h
theorem r_yes (q : R true H) : tYes σ H R := q
theorem r_abs {a : Int} {P : Int → Prop} (q : P (if a < 0 then -a else a)) : ∃ i, [V.int a] = [.int i] ∧ P (if i < 0 then -i else i) := ⟨a, rfl, q⟩
theorem r_ift {A B : Prop} (h : A) : if true = true then A else B := by rw [if_pos rfl]; exact h
theorem r_iff {A B : Prop} (h : B) : if false = true then A else B := by rw [if_neg Bool.false_ne_true]; exact h
end
end Jv
namespace Jv
open PySem PySem.Spec PyProof.Rows L2
section
variable {K : PySem.W.Frag} {H H' : Hp} {a p l : Addr} {xs : List V} {o u : HO}
theorem sqL_new (h : SqL K H a xs) (n : H p = none) : SqL K (upd H p u) a xs := (same_new n).seq h
theorem sqT_new (h : SqT K H a xs) (n : H p = none) : SqT K (upd H p u) a xs := Jv.Same.sqT (same_new n) h
theorem sqL_at (h : H a = some (.lst xs)) : SqL K H a xs := .inl (.inl h)
theorem sqT_at (h : H a = some (.tup xs)) : SqT K H a xs := .inl (.inl h)
theorem map_at {f : Int → V} {ns : List Int} {i : Nat} {x : V} (h : (ns.map f)[i]? = some x) : ∃ z, ns[i]? = some z ∧ x = f z := by
  rw [List.getElem?_map] at h
  cases e : ns[i]? with
  | none => rw [e] at h; cases h
  | some z => rw [e] at h; exact ⟨z, rfl, (Option.some.inj h).symm⟩
end
end Jv
namespace Jv
open PySem PySem.Spec PyProof.Rows L2
theorem r_wipe {σ1 σ2 : L2.St} {vs : List Nat} {P : Prop} (e : wipe σ1 vs = wipe σ2 vs) (q : P) : wipe σ1 vs = wipe σ2 vs ∧ P := ⟨e, q⟩
end Jv
namespace Jv
open PySem PySem.Spec PyProof.Rows L2
section
variable {K : PySem.W.Frag} {H : Hp}
def rLenK (K : PySem.W.Frag) : List V → Hp → VK → Prop := fun xs H Q => ∃ x n, xs = [x] ∧ LenV K x H n ∧ Q (.int n) H
theorem cr_len {X : Cx} : CallR X (.builtin "len") (rLenK X.K) := call_len
def rAbs : List V → Hp → VK → Prop := fun xs H Q => ∃ i, xs = [.int i] ∧ Q (.int (if i < 0 then -i else i)) H
theorem cr_abs {X : Cx} : CallR X (.builtin "abs") rAbs := call_abs
def rMin2 : List V → Hp → VK → Prop := fun xs H Q => ∃ i j, xs = [.int i, .int j] ∧ Q (.int (if j < i then j else i)) H
def rMax2 : List V → Hp → VK → Prop := fun xs H Q => ∃ i j, xs = [.int i, .int j] ∧ Q (.int (if j > i then j else i)) H
def rInt : List V → Hp → VK → Prop := fun xs H Q => (∃ i, xs = [.int i] ∧ Q (.int i) H) ∨ ∃ k, xs = [.bl k] ∧ Q (.int (if k then 1 else 0)) H
theorem cr_int {X : Cx} : CallR X (.type "int") rInt := call_int1
def rListOf (K : PySem.W.Frag) : List V → Hp → VK → Prop := fun xs H Q => ∃ p ys, xs = [.ref p] ∧ (SqL K H p ys ∨ SqT K H p ys) ∧ ∀ l, H l = none → Q (.ref l) (upd H l (.lst ys))
def rTupOf (K : PySem.W.Frag) : List V → Hp → VK → Prop := fun xs H Q => ∃ p ys, xs = [.ref p] ∧ ((SqL K H p ys ∧ ∀ l, H l = none → Q (.ref l) (upd H l (.tup ys))) ∨ (SqT K H p ys ∧ Q (.ref p) H))
section
variable {Q : VK}
theorem r_len {p : Addr} {xs : List V} (h : SqL K H p xs ∨ SqT K H p xs) (q : Q (.int xs.length) H) : rLenK K [V.ref p] H Q := ⟨_, xs.length, rfl, by
  rcases h with h | h
  · exact .inl ⟨xs, h, rfl⟩
  · exact .inr ⟨xs, h, rfl⟩, q⟩
theorem r_absN {a : Int} (q : Q (.int (if a < 0 then -a else a)) H) : rAbs [.int a] H Q := ⟨a, rfl, q⟩
theorem r_min {a b : Int} (q : Q (.int (if b < a then b else a)) H) : rMin2 [.int a, .int b] H Q := ⟨a, b, rfl, q⟩
theorem r_max {a b : Int} (q : Q (.int (if b > a then b else a)) H) : rMax2 [.int a, .int b] H Q := ⟨a, b, rfl, q⟩
theorem r_intN {a : Int} (q : Q (.int a) H) : rInt [.int a] H Q := .inl ⟨a, rfl, q⟩
theorem r_listOf {p : Addr} {ys : List V} (h : SqL K H p ys ∨ SqT K H p ys) (q : ∀ l, H l = none → Q (.ref l) (upd H l (.lst ys))) : rListOf K [.ref p] H Q := ⟨p, ys, rfl, h, q⟩
theorem r_tupOfL {p : Addr} {ys : List V} (h : SqL K H p ys) (q : ∀ l, H l = none → Q (.ref l) (upd H l (.tup ys))) : rTupOf K [.ref p] H Q := ⟨p, ys, rfl, .inl ⟨h, q⟩⟩
theorem r_tupOfT {p : Addr} {ys : List V} (h : SqT K H p ys) (q : Q (.ref p) H) : rTupOf K [.ref p] H Q := ⟨p, ys, rfl, .inr ⟨h, q⟩⟩
end
theorem r_decI {A B : Prop} {a b : Int} (h1 : a = b → A) (h2 : a ≠ b → B) : if decide (V.int a = V.int b) = true then A else B := r_dec (fun h => h1 (V.int.inj h)) fun h => h2 fun e => h (by rw [e])
theorem r_ndecI {A B : Prop} {a b : Int} (h1 : a ≠ b → A) (h2 : a = b → B) : if (!decide (V.int a = V.int b)) = true then A else B := r_ndec (fun h => h1 fun e => h (by rw [e])) fun h => h2 (V.int.inj h)
theorem ixN_of {n j : Nat} (hj : j < n) : ixN n (j : Int) = some j := by
  unfold ixN
  rw [if_pos (by omega), if_pos (by omega)]
  simp
end
end Jv
namespace Jv
open PySem PySem.Spec PyProof.Rows L2
theorem at_i {xs : List V} {k : Int} {v : V} (h0 : 0 ≤ k) (h : xs[k.toNat]? = some v) : atI xs k = some v := by
  rw [show k = ((k.toNat : Nat) : Int) by omega]
  exact atI_nat h
theorem map_get {f : Int → V} {ns : List Int} {i : Nat} (h : i < ns.length) : (ns.map f)[i]? = some (f ns[i]) := by
  rw [List.getElem?_map, List.getElem?_eq_getElem h]; rfl
end Jv

/-! ### things of any sort -/
namespace Jv
open PySem PySem.Spec PyProof.Rows L2
/-- a thing that a law hands in: a scalar, or a list, a tuple, a dict that stands -/
def Th (H : Hp) : V → Prop
  | .non => True
  | .bl _ => True
  | .int _ => True
  | .str _ => True
  | .ref a => (∃ xs, H a = some (.lst xs)) ∨ (∃ xs, H a = some (.tup xs)) ∨ ∃ kvs, H a = some (.dK kvs)
  | _ => False
def isB : V → Bool
  | .bl _ => true
  | _ => false
def isI : V → Bool
  | .int _ => true
  | _ => false
/-- a list or a tuple of xs -/
def Sq (H : Hp) (x : V) (xs : List V) : Prop := ∃ a, x = .ref a ∧ (H a = some (.lst xs) ∨ H a = some (.tup xs))
def sqOf (H : Hp) : V → Option (List V)
  | .ref a => match H a with
    | some (.lst xs) => some xs
    | some (.tup xs) => some xs
    | _ => none
  | _ => none
theorem sq_some {H : Hp} {x : V} {xs : List V} (h : sqOf H x = some xs) : Sq H x xs := by
  unfold sqOf at h
  split at h
  · rename_i a
    split at h
    · rename_i ys e; cases h; exact ⟨a, rfl, .inl e⟩
    · rename_i ys e; cases h; exact ⟨a, rfl, .inr e⟩
    · cases h
  · cases h
theorem Sq.of {H : Hp} {x : V} {xs : List V} (h : Sq H x xs) : sqOf H x = some xs := by
  obtain ⟨a, rfl, h | h⟩ := h <;> simp [sqOf, h]
theorem Sq.same {H H' : Hp} {x : V} {xs : List V} (h : Sq H x xs) (s : Same H H') : Sq H' x xs := by
  obtain ⟨a, rfl, h | h⟩ := h
  · exact ⟨a, rfl, .inl (s _ _ h)⟩
  · exact ⟨a, rfl, .inr (s _ _ h)⟩
theorem Sq.th {H : Hp} {x : V} {xs : List V} (h : Sq H x xs) : Th H x := by
  obtain ⟨a, rfl, h | h⟩ := h
  · exact .inl ⟨_, h⟩
  · exact .inr (.inl ⟨_, h⟩)
theorem Th.same {H H' : Hp} {x : V} (h : Th H x) (s : Same H H') : Th H' x := by
  cases x with
  | ref a =>
    rcases h with ⟨xs, h⟩ | ⟨xs, h⟩ | ⟨xs, h⟩
    · exact .inl ⟨xs, s _ _ h⟩
    · exact .inr (.inl ⟨xs, s _ _ h⟩)
    · exact .inr (.inr ⟨xs, s _ _ h⟩)
  | _ => exact h
theorem sqOf_same {H H' : Hp} {x : V} (h : Th H x) (s : Same H H') : sqOf H' x = sqOf H x := by
  cases x with
  | ref a => rcases h with ⟨xs, h⟩ | ⟨xs, h⟩ | ⟨xs, h⟩ <;> simp [sqOf, h, s _ _ h]
  | _ => rfl
section
variable {K : PySem.W.Frag} {H : Hp} {x : V} {Q : VK}
theorem th_ty (h : Th H x) : ∃ t, TyX K H x (.type t) ∧ kitB t "bool" = some (isB x) ∧ kitB t "int" = some (isB x || isI x) ∧ kitB t "list" = some (t == "list") ∧ kitB t "tuple" = some (t == "tuple") ∧ ((t == "list") || (t == "tuple")) = (sqOf H x).isSome := by
  cases x with
  | non => exact ⟨_, .base .non, (by decide +kernel : kitB "NoneType" "bool" = some false), (by decide +kernel : kitB "NoneType" "int" = some false), by decide +kernel, by decide +kernel, (by decide +kernel : (("NoneType" == "list") || ("NoneType" == "tuple")) = false)⟩
  | bl b => exact ⟨_, .base (.bl b), (by decide +kernel : kitB "bool" "bool" = some true), (by decide +kernel : kitB "bool" "int" = some true), by decide +kernel, by decide +kernel, (by decide +kernel : (("bool" == "list") || ("bool" == "tuple")) = false)⟩
  | int i => exact ⟨_, .base (.int i), (by decide +kernel : kitB "int" "bool" = some false), (by decide +kernel : kitB "int" "int" = some true), by decide +kernel, by decide +kernel, (by decide +kernel : (("int" == "list") || ("int" == "tuple")) = false)⟩
  | str i => exact ⟨_, .base (.str i), (by decide +kernel : kitB "str" "bool" = some false), (by decide +kernel : kitB "str" "int" = some false), by decide +kernel, by decide +kernel, (by decide +kernel : (("str" == "list") || ("str" == "tuple")) = false)⟩
  | ref a =>
    rcases h with ⟨xs, h⟩ | ⟨xs, h⟩ | ⟨xs, h⟩
    · exact ⟨_, .base (.lst h), (by decide +kernel : kitB "list" "bool" = some false), (by decide +kernel : kitB "list" "int" = some false), by decide +kernel, by decide +kernel, by simp [sqOf, h]⟩
    · exact ⟨_, .base (.tup h), (by decide +kernel : kitB "tuple" "bool" = some false), (by decide +kernel : kitB "tuple" "int" = some false), by decide +kernel, by decide +kernel, by simp [sqOf, h]⟩
    · exact ⟨_, .base (.dK h), (by decide +kernel : kitB "dict" "bool" = some false), (by decide +kernel : kitB "dict" "int" = some false), by decide +kernel, by decide +kernel, by simp [sqOf, h]⟩
  | byt _ => exact h.elim
  | flt _ => exact h.elim
  | ty _ => exact h.elim
theorem r_isB (h : Th H x) (q : Q (.bl (isB x)) H) : rIsi K [x, .ty "bool"] H Q := by
  obtain ⟨t, h1, h2, _⟩ := th_ty (K := K) h
  exact ⟨x, _, _, _, _, rfl, .ty _, h1, kit_ty h2, q⟩
theorem r_isI (h : Th H x) (q : Q (.bl (isB x || isI x)) H) : rIsi K [x, .ty "int"] H Q := by
  obtain ⟨t, h1, _, h2, _⟩ := th_ty (K := K) h
  exact ⟨x, _, _, _, _, rfl, .ty _, h1, kit_ty h2, q⟩
theorem r_isS {p : Addr} (hp : H p = some (.tup [.ty "list", .ty "tuple"])) (h : Th H x) (q : Q (.bl (sqOf H x).isSome) H) : rIsiT K [x, .ref p] H Q := by
  obtain ⟨t, h1, _, _, h2, h3, h4⟩ := th_ty (K := K) h
  refine ⟨x, p, _, _, _, (sqOf H x).isSome, rfl, hp, .cons (.ty _) (.cons (.ty _) .nil), h1, ?_, q⟩
  refine kitAny_cons (kit_ty h2) (fun e => ?_) fun e => by rw [← h4, e]; rfl
  refine kitAny_cons (kit_ty h3) (fun e2 => ?_) fun e2 => by rw [← h4, e2, Bool.or_true]
  rw [kitAny_nil, ← h4, e, e2]; rfl
theorem r_rfl {a : V} {P : Prop} (q : P) : a = a ∧ P := ⟨rfl, q⟩
end
/-- is_whole's answer -/
def loOk : V → Int → Bool
  | .int l, i => decide (l ≤ i)
  | _, _ => true
def hiOk : V → Int → Bool
  | .int l, i => decide (i ≤ l)
  | _, _ => true
def wholeV : V → V → V → Bool
  | .int i, lo, hi => loOk lo i && hiOk hi i
  | _, _, _ => false
def Bd (x : V) : Prop := x = .non ∨ ∃ i, x = .int i
theorem wholeV_int {x : V} {l h : Int} : wholeV x (.int l) (.int h) = true → ∃ i, x = .int i ∧ l ≤ i ∧ i ≤ h := by
  intro q
  cases x with
  | int i => simp [wholeV, loOk, hiOk] at q; exact ⟨i, rfl, q⟩
  | _ => cases q
end Jv
namespace Jv
open PySem PySem.Spec PyProof.Rows L2
theorem wholeV_lo0 {i a : Int} {hi : V} (h : i < a) : wholeV (.int i) (.int a) hi = false := by
  show (decide (a ≤ i) && hiOk hi i) = false
  rw [decide_eq_false (by omega), Bool.false_and]
theorem wholeV_lo1 {i a : Int} {hi : V} (h : ¬ i < a) : wholeV (.int i) (.int a) hi = hiOk hi i := by
  show (decide (a ≤ i) && hiOk hi i) = _
  rw [decide_eq_true (by omega), Bool.true_and]
theorem r_dec1 {A B p : Prop} {_ : Decidable p} (h : p) (q : A) : if decide p = true then A else B := r_true (decide_eq_true h) q
theorem r_dec0 {A B p : Prop} {_ : Decidable p} (h : ¬ p) (q : B) : if decide p = true then A else B := r_false (decide_eq_false h) q
end Jv

/-! ### walks over a list or a tuple; comprehensions whose elements are told by a function -/
namespace Jv
open PySem PySem.Spec PyProof.Rows L2
theorem piOr {X : Cx} {tg it : Expr} {w1 w2 : TI} (h : PI X tg it w1) (h' : PI X tg it w2) : PI X tg it (fun σ H R => w1 σ H R ∨ w2 σ H R) := ⟨fun pins s σ H R I q => q.elim (h.run pins s σ H R I) (h'.run pins s σ H R I)⟩
section
variable {K : PySem.W.Frag} {σ : L2.St} {H : Hp} {te : TE} {Q : VK} {xs : List V} {j i : Nat} {x : V}
theorem wipe1 {v : Option V} : wipe ((σ.set j none).set j v) [j] = wipe σ [j] := by
  show ((σ.set j none).set j v).set j none = σ.set j none
  rw [List.set_set, List.set_set]
theorem take_more {α : Type} {l : List α} {i : Nat} {x : α} (h : l[i]? = some x) : l.take (i + 1) = l.take i ++ [x] := by
  rw [List.take_add_one, h]; rfl
theorem lcF {J : It} {G : Hp → Prop} (w : Walk J xs.length G (YAt xs)) (hG : ∀ H', Same H H' → G H') (f : V → V) (few : xs.length ≤ 1000)
    (hs : ∀ v H1, v ∈ xs → Same H H1 → ∀ P : VK, (∀ H2, Same H1 H2 → P (f v) H2) → te ((σ.set j none).set j (some v)) H1 P)
    (hd : ∀ D H1, Same H H1 → H D = none → H1 D = some (.lst (xs.map f)) → Q (.ref D) H1) : ∀ D, H D = none → ∃ W : Nat → Nat → Hp → Prop, (∃ m, W 0 m (upd H D (.lst []))) ∧ ∀ i m H, W i m H →
      (J.stop i H ∧ Q (.ref D) H) ∨ (J.go i H ∧ ∃ Nx : Hp → Prop, (∀ H', Nx H' → ∃ m', m' < m ∧ W (i + 1) m' H') ∧ ∀ x H', J.yld i H x H' → gName j x (wipe σ [j]) H' fun σ2 H2 => wipe σ2 [j] = wipe σ [j] ∧ tYes σ2 H2 fun b H3 =>
        if b = true then te σ2 H3 fun y H4 => ∃ acc, H4 D = some (.lst acc) ∧ acc.length < sizeLine ∧ Nx (upd H4 D (.lst (acc ++ [y]))) else Nx H3) := by
  intro D hD
  refine lc_it w (fun i H1 => Same H H1 ∧ H1 D = some (.lst ((xs.take i).map f))) ⟨same_new hD, upd_same⟩ (fun i H1 _ h => hG H1 h.1) ?_ ?_
  · rintro i x H1 H2 hi ⟨s1, e1⟩ ⟨rfl, hx⟩
    refine ⟨wipe1, ?_⟩
    refine r_yes ?_
    refine r_true (c := true) rfl ?_
    refine hs x _ (List.mem_of_getElem? hx) s1 _ fun H3 s3 => ⟨_, s3 _ _ e1, ?_, ?_, ?_⟩
    · rw [List.length_map, List.length_take]; exact small_lt (by omega)
    · intro b o e; exact kpO (s3 _ _ (s1 b o e)) (ne_of_none e hD)
    · rw [upd_same, take_more hx, List.map_append]; rfl
  · rintro H1 ⟨s1, e1⟩
    rw [List.take_length] at e1
    exact hd D H1 s1 hD e1
/-- over a name that holds a list | a tuple | either -/
theorem lcL {a : Addr} (hv : σ[i]? = some (some (.ref a))) (hx : SqL K H a xs) (f : V → V) (few : xs.length ≤ 1000)
    (hs : ∀ v H1, v ∈ xs → Same H H1 → ∀ P : VK, (∀ H2, Same H1 H2 → P (f v) H2) → te ((σ.set j none).set j (some v)) H1 P)
    (hd : ∀ D H1, Same H H1 → H D = none → H1 D = some (.lst (xs.map f)) → Q (.ref D) H1) : tLc (iList K (tVar i)) (gName j) tYes te [j] σ H Q :=
  ⟨_, hv, a, rfl, ⟨xs, hx⟩, lcF walk_list (fun H' s => s.seq hx) f few hs hd⟩
theorem lcT {a : Addr} (hv : σ[i]? = some (some (.ref a))) (hx : SqT K H a xs) (f : V → V) (few : xs.length ≤ 1000)
    (hs : ∀ v H1, v ∈ xs → Same H H1 → ∀ P : VK, (∀ H2, Same H1 H2 → P (f v) H2) → te ((σ.set j none).set j (some v)) H1 P)
    (hd : ∀ D H1, Same H H1 → H D = none → H1 D = some (.lst (xs.map f)) → Q (.ref D) H1) : tLc (iTup K (tVar i)) (gName j) tYes te [j] σ H Q :=
  ⟨_, hv, a, rfl, ⟨xs, hx⟩, lcF walk_tup (fun H' s => Jv.Same.sqT s hx) f few hs hd⟩
theorem lcS (hv : σ[i]? = some (some x)) (hx : Sq H x xs) (f : V → V) (few : xs.length ≤ 1000)
    (hs : ∀ v H1, v ∈ xs → Same H H1 → ∀ P : VK, (∀ H2, Same H1 H2 → P (f v) H2) → te ((σ.set j none).set j (some v)) H1 P)
    (hd : ∀ D H1, Same H H1 → H D = none → H1 D = some (.lst (xs.map f)) → Q (.ref D) H1) : tLc (fun σ H R => iList K (tVar i) σ H R ∨ iTup K (tVar i) σ H R) (gName j) tYes te [j] σ H Q := by
  obtain ⟨a, rfl, h | h⟩ := hx
  · exact .inl (lcL hv (sqL_at h) f few hs hd)
  · exact .inr (lcT hv (sqT_at h) f few hs hd)
theorem r_all {D : Addr} {f : V → Bool} (h : H D = some (.lst (xs.map fun v => V.bl (f v)))) (q : Q (.bl (xs.all f)) H) : rAll K [.ref D] H Q := by
  refine ⟨D, xs.map f, rfl, sqL_at (by rw [h, List.map_map]; rfl), ?_⟩
  rw [List.all_map]; exact q
theorem Sq.len (h : Sq H x xs) (q : Q (.int xs.length) H) : rLenK K [x] H Q := by
  obtain ⟨a, rfl, h | h⟩ := h
  · exact r_len (.inl (sqL_at h)) q
  · exact r_len (.inr (sqT_at h)) q
theorem Sq.ix (h : Sq H x xs) {k : Int} {v : V} (e : atI xs k = some v) (q : Q v H) : rIx K x (.int k) H Q := by
  obtain ⟨a, rfl, h | h⟩ := h
  · exact .inl (r_ixL (sqL_at h) e q)
  · exact .inr (.inl (r_ixT (sqT_at h) e q))
end
end Jv

/-! ### sorted(t) of a tuple of ints -/
namespace JvS
open PySem PySem.Spec PyProof.Rows L2 SrtO
section
variable {P : Program} {w : World} {A : Around} {E : Value → Shared → Prop} {s : Shared}
/-- the list that collect makes -/
abbrev colH (h : Heap) (vs : List Value) : Heap := (h.push (seqObj "list" #[] 0)).update h.objs.size (Obj.mapSeq (· ++ vs.toArray))
theorem collect_tup {l : Addr} {vs : List Value} {Q : List Value → Shared → Prop} (hl : s.heap.IsTuple l vs.toArray) (h : Q vs { s with heap := colH s.heap vs }) (hsz : vs.length ≤ sizeLine) :
    wpAny (model P w) A (collect (.ref l)) Q E s := by
  obtain ⟨o, ho, hc, n, hd⟩ := id hl
  have ho2 : (s.heap.push (seqObj "list" #[] 0)).get? l = some o := Heap.get?_push_of_some _ ho
  have new : (s.heap.push (seqObj "list" #[] 0)).get? s.heap.objs.size = some (seqObj "list" #[] 0) := Heap.get?_push_size _ rfl
  unfold collect
  refine wpAny_bind (wpAny_runValue (codeAny_builtin entry_proto_collect' (show wpAny _ _ (do again (.builtin "list.__iadd__" ⟨[← newList [], .ref l], []⟩)) _ _ s from
    wpAny_bind (wpAny_newList (wpAny_pure ⟨Code.quiet_builtin _ (by decide +kernel), codeAny_builtin entry_list_iadd' ?_⟩)))))
  show wpAny _ _ (Builtin.List.listExtendWith (.ref s.heap.objs.size) (.ref l) (.ref s.heap.objs.size)) _ _ { s with heap := s.heap.push (seqObj "list" #[] 0) }
  unfold Builtin.List.listExtendWith
  refine wpAny_bind (wpAny_typeOf (T := "tuple") ⟨o, ho2, hc⟩ ?_)
  rw [if_pos (by have e : (Value.type "tuple" == Value.type "tuple") = true := rfl
                 rw [e]; simp)]
  refine wpAny_bind (listItems_at ho2 hd (wpAny_bind (listItems_at (xs := #[]) (n := 0) new rfl ?_)))
  rw [if_neg (by simp)]
  refine wpAny_bind (listUpdate_at (xs := #[]) (n := 0) new rfl (wpAny_pure ?_) (Nat.zero_le _) (by show (#[] ++ vs.toArray).size ≤ sizeLine + 1; simp; omega))
  show wpAny (model P w) A (do
      let o ← load s.heap.objs.size
      match o.data with
      | .seq ys _ => pure ys.toList
      | _ => unsupported "internal:collect") Q E { s with heap := colH s.heap vs }
  refine wpAny_bind (wpAny_load (get?_update_seq new _) (show wpAny _ _ (pure ((#[] : Array Value) ++ vs.toArray).toList) Q E _ from ?_))
  rw [show ((#[] : Array Value) ++ vs.toArray).toList = vs by simp]
  exact wpAny_pure h
theorem sorted_tup {l : Addr} {vs : List Value} {ltv : Value → Value → Bool} {Q : Value → Shared → Prop} (O : Swo ltv) (hl : s.heap.IsTuple l vs.toArray) (hz : vs.length ≤ sizeLine)
    (hS : 2 ≤ vs.length → ∀ (h₁ : Heap) (a : Addr), h₁.get? a = some (seqObj "list" vs.toArray 0) → (∀ b o, s.heap.get? b = some o → b ≠ a ∧ h₁.get? b = some o) → SortableO P w A.in1.in1 { s with heap := h₁ } a vs ltv)
    (h : ∀ out : List Value, Srtd ltv out → Stb ltv out vs → Q (.ref (s.heap.objs.size + 1)) { s with heap := sortedAll s.heap vs out.toArray }) :
    wpAny (model P w) A (call (.builtin "sorted") [.ref l]) Q E s := by
  refine Calls.call_function_entry kind_sorted plain_sorted entry_sorted (args_sorted1 _) ?_
  unfold Builtin.«sorted»
  refine wpAny_bind (m := checkCount "sorted" 1 1 _) (wpAny_pure (wpAny_bind (collect_tup hl (wpAny_bind (wpAny_newList ?_ hz)) hz)))
  have size1 : (colH s.heap vs).objs.size = s.heap.objs.size + 1 := by rw [Heap.size_update, size_push']
  have at2 : ((colH s.heap vs).push (seqObj "list" vs.toArray 0)).get? (s.heap.objs.size + 1) = some (seqObj "list" vs.toArray 0) := by
    rw [← size1]; exact Heap.get?_push_size _ rfl
  have old : ∀ b o, s.heap.get? b = some o → b ≠ s.heap.objs.size + 1 ∧ ((colH s.heap vs).push (seqObj "list" vs.toArray 0)).get? b = some o := fun b o q => by
    have lt := Heap.lt_size q
    refine ⟨Nat.ne_of_lt (Nat.lt_succ_of_lt lt), Heap.get?_push_of_some _ ?_⟩
    rw [Heap.get?_update_ne _ _ _ _ (Nat.ne_of_lt lt)]
    exact Heap.get?_push_of_some _ q
  show wpAny _ _ _ _ _ { s with heap := (colH s.heap vs).push (seqObj "list" vs.toArray 0) }
  rw [size1]
  refine wpAny_bind (wpAny_holding (wpAny_call_entry slot_list_sort ⟨_, at2, rfl⟩ entry_list_sort (list_sort_ord O at2 hz (fun h2 => hS h2 _ _ at2 old) fun out a b => ⟨_, rfl, wpAny_pure ⟨_, rfl, h out a b⟩⟩) (args_list_sort _)))
end
end JvS
namespace Jv
open PySem PySem.Spec PyProof.Rows L2
section
variable {X : Cx}
/-- sorted(x), x a list or a tuple of ints -/
def rSortIT (K : PySem.W.Frag) : List V → Hp → VK → Prop := fun vs H Q => ∃ (a : Addr) (ns : List Int), vs = [V.ref a] ∧ (SqL K H a (ns.map V.int) ∨ SqT K H a (ns.map V.int)) ∧
  ∀ (ns' : List Int) (p : Addr), ns'.Perm ns → ns'.Pairwise (· ≤ ·) → H p = none → Q (.ref p) (upd H p (.lst (ns'.map V.int)))
theorem cr_sortIT : CallR X (.builtin "sorted") (rSortIT X.K) := by
  intro pins s σ H vs us Q I r h
  obtain ⟨a, ns, rfl, hs | hs, q⟩ := h
  · exact cr_sortedI pins s σ H _ us Q I r ⟨a, ns, rfl, hs, q⟩
  · obtain ⟨its, rv, ht, hz⟩ := I.tuple hs
    rw [Vals.ref1 r]
    have hi := rv.ints
    rw [List.length_map] at hz
    have hz2 : its.length ≤ sizeLine := by rw [← rv.length, List.length_map]; exact hz
    refine JvS.sorted_tup SrtO.swo_int (show s.heap.IsTuple a its.toArray from ht) hz2 (fun h2 _ _ _ _ => SrtO.ints_sortable hi h2) fun out h1 h2 => ?_
    obtain ⟨k1, k2, k3⟩ := SrtO.ints_out hi h1 h2
    obtain ⟨ep, he⟩ := PyProof.Rows.sortedAll_at s.heap its out.toArray
    refine ⟨.ref _, upd H (s.heap.objs.size + 1) (.lst ((out.map SrtO.iv).map V.int)), I.laid (t' := s.toks) (fun _ _ => PyProof.Rows.sortedAll_old) (Nat.le_succ _) ⟨?_, out, ep, vals_of_ints k1, he⟩, rfl, q _ _ k2 k3 (I.hok.fresh (Nat.le_succ _))⟩
    rw [List.length_map, k2.length_eq]; exact hz
end
/-! ### data of ints -/
theorem canAll_ints : ∀ ns : List Int, PyData.canLayAll0 (ns.map PyData.int) = true
  | [] => by simp [PyData.canLayAll0]
  | a :: r => by simp [PyData.canLayAll0, PyData.canLay0, canAll_ints r]
theorem depAll_ints : ∀ ns : List Int, PyData.depthAll (ns.map PyData.int) = 0
  | [] => by simp [PyData.depthAll]
  | a :: r => by simp [PyData.depthAll, PyData.depth, depAll_ints r]
theorem shapedL (ns : List Int) : SeqAt.shaped (.list (ns.map .int)) = true := by simp [SeqAt.shaped, PyData.canLay0, PyData.depth, canAll_ints, depAll_ints]
theorem shapedT (ns : List Int) : SeqAt.shaped (.tuple (ns.map .int)) = true := by simp [SeqAt.shaped, PyData.canLay0, PyData.depth, canAll_ints, depAll_ints]
theorem eqvAll_ints : ∀ a b : List Int, PyData.eqvAll (a.map .int) (b.map .int) = decide (a = b)
  | [], [] => by simp [PyData.eqvAll]
  | [], _ :: _ => by simp [PyData.eqvAll]
  | _ :: _, [] => by simp [PyData.eqvAll]
  | x :: a, y :: b => by
    simp only [List.map_cons, PyData.eqvAll, PyData.eqv, eqvAll_ints a b]
    by_cases h : x = y <;> by_cases g : a = b <;> simp [h, g]
theorem eqvL (a b : List Int) : PyData.eqv (.list (a.map .int)) (.list (b.map .int)) = decide (a = b) := by rw [PyData.eqv, eqvAll_ints]
theorem eqvT (a b : List Int) : PyData.eqv (.tuple (a.map .int)) (.tuple (b.map .int)) = decide (a = b) := by rw [PyData.eqv, eqvAll_ints]
section
variable {K : PySem.W.Frag} {H : Hp}
theorem dpAll_ints : ∀ ns : List Int, DpAll K H (ns.map V.int) (ns.map PyData.int)
  | [] => .nil
  | a :: r => .cons (.int a) (dpAll_ints r)
theorem dpL {a : Addr} {ns : List Int} (h : SqL K H a (ns.map V.int)) : Dp K H (.ref a) (.list (ns.map .int)) := .lst h (dpAll_ints ns)
theorem dpT {a : Addr} {ns : List Int} (h : SqT K H a (ns.map V.int)) : Dp K H (.ref a) (.tuple (ns.map .int)) := .tup h (dpAll_ints ns)
end
end Jv

/-! ### kinds, lots, orders -/
namespace Jv
open PySem PySem.Spec PyProof.Rows L2
def intsV : List V → Option (List Int)
  | [] => some []
  | .int i :: r => (intsV r).map (i :: ·)
  | _ :: _ => none
theorem iv_map : ∀ ns : List Int, intsV (ns.map V.int) = some ns
  | [] => rfl
  | a :: r => by simp [intsV, iv_map r]
theorem iv_of : ∀ {xs : List V} {ns : List Int}, intsV xs = some ns → xs = ns.map V.int
  | [], ns, h => by cases h; rfl
  | .int i :: r, ns, h => by
    cases e : intsV r with
    | none => simp [intsV, e] at h
    | some m => simp [intsV, e] at h; subst h; rw [iv_of e]; rfl
  | .non :: _, _, h => by cases h
  | .bl _ :: _, _, h => by cases h
  | .str _ :: _, _, h => by cases h
  | .byt _ :: _, _, h => by cases h
  | .flt _ :: _, _, h => by cases h
  | .ref _ :: _, _, h => by cases h
  | .ty _ :: _, _, h => by cases h
/-- what a sequence's items must be for the program to look at them -/
def ThS (H : Hp) (x : V) : Prop := Th H x ∧ ∀ xs, Sq H x xs → xs.length ≤ 60 ∧ ∀ v ∈ xs, Th H v
theorem ThS.same {H H' : Hp} {x : V} (h : ThS H x) (s : Same H H') : ThS H' x := ⟨h.1.same s, fun xs q => by
  have e := q.of
  rw [sqOf_same h.1 s] at e
  obtain ⟨a, b⟩ := h.2 xs (sq_some e)
  exact ⟨a, fun v m => (b v m).same s⟩⟩
def kindsB (H : Hp) (x : V) (k : Int) : Bool := match sqOf H x with
  | some xs => xs.all fun v => wholeV v (.int 0) (.int (k - 1))
  | none => false
def inK (k : Int) (ns : List Int) : Prop := ∀ n ∈ ns, 0 ≤ n ∧ n ≤ k - 1
theorem whole_all {k : Int} : ∀ {xs : List V}, (xs.all fun v => wholeV v (.int 0) (.int (k - 1))) = true → ∃ ns, xs = ns.map V.int ∧ inK k ns
  | [], _ => ⟨[], rfl, fun _ h => by cases h⟩
  | x :: r, h => by
    rw [List.all_cons, Bool.and_eq_true] at h
    obtain ⟨i, rfl, h1, h2⟩ := wholeV_int h.1
    obtain ⟨ns, rfl, h3⟩ := whole_all h.2
    refine ⟨i :: ns, rfl, fun n hn => ?_⟩
    rcases List.mem_cons.mp hn with rfl | hn
    · exact ⟨h1, h2⟩
    · exact h3 n hn
theorem all_whole {k : Int} {ns : List Int} (h : inK k ns) : ((ns.map V.int).all fun v => wholeV v (.int 0) (.int (k - 1))) = true := by
  rw [List.all_map, List.all_eq_true]
  intro n hn
  obtain ⟨a, b⟩ := h n hn
  show (decide (0 ≤ n) && decide (n ≤ k - 1)) = true
  rw [decide_eq_true a, decide_eq_true b]; rfl
instance {k : Int} {ns : List Int} : Decidable (inK k ns) := inferInstanceAs (Decidable (∀ n ∈ ns, _))
theorem whole_all_iff {k : Int} {ns : List Int} : ((ns.map V.int).all fun v => wholeV v (.int 0) (.int (k - 1))) = decide (inK k ns) := by
  by_cases h : inK k ns
  · rw [all_whole h, decide_eq_true h]
  · rw [decide_eq_false h]
    cases e : (ns.map V.int).all fun v => wholeV v (.int 0) (.int (k - 1)) with
    | false => rfl
    | true =>
      obtain ⟨ms, e2, h2⟩ := whole_all e
      have e3 : ns = ms := by have q := iv_map ns; rw [e2, iv_map] at q; cases q; rfl
      exact absurd (e3 ▸ h2) h
theorem sorted_ext : ∀ {a b : List Int}, a.Pairwise (· < ·) → b.Pairwise (· < ·) → (∀ n, n ∈ a ↔ n ∈ b) → a = b
  | [], [], _, _, _ => rfl
  | [], y :: _, _, _, h => absurd ((h y).mpr List.mem_cons_self) (by simp)
  | x :: _, [], _, _, h => absurd ((h x).mp List.mem_cons_self) (by simp)
  | x :: a, y :: b, ha, hb, h => by
    have ha' := List.pairwise_cons.mp ha
    have hb' := List.pairwise_cons.mp hb
    have e : x = y := by
      rcases List.mem_cons.mp ((h x).mp List.mem_cons_self) with e | m1
      · exact e
      · rcases List.mem_cons.mp ((h y).mpr List.mem_cons_self) with e | m2
        · exact e.symm
        · have q1 := hb'.1 x m1
          have q2 := ha'.1 y m2
          omega
    subst e
    congr 1
    refine sorted_ext ha'.2 hb'.2 fun n => ⟨fun m => ?_, fun m => ?_⟩
    · rcases List.mem_cons.mp ((h n).mp (List.mem_cons_of_mem _ m)) with e | q
      · subst e; exact absurd (ha'.1 n m) (by omega)
      · exact q
    · rcases List.mem_cons.mp ((h n).mpr (List.mem_cons_of_mem _ m)) with e | q
      · subst e; exact absurd (hb'.1 n m) (by omega)
      · exact q
def lotP (k : Int) (ns : List Int) : Prop := inK k ns ∧ 0 < ns.length ∧ ns.Pairwise (· < ·)
instance {k : Int} {ns : List Int} : Decidable (lotP k ns) := inferInstanceAs (Decidable (_ ∧ _))
def lotV (H : Hp) (x : V) (k : Int) : Bool := match sqOf H x with
  | some xs => match intsV xs with
    | some ns => decide (lotP k ns)
    | none => false
  | none => false
theorem set_eq {ns ms : List Int} (h1 : ms.Pairwise (· < ·)) (h2 : ∀ k : Int, k ∈ ms ↔ decide (k ∈ ns) = true) : (ns = ms) ↔ ns.Pairwise (· < ·) :=
  ⟨fun e => e ▸ h1, fun h => sorted_ext h h1 fun n => by rw [h2 n, decide_eq_true_iff]⟩
def orderP (k : Int) (ns : List Int) : Prop := inK k ns ∧ ns.Perm ((List.range k.toNat).map fun (i : Nat) => (i : Int))
instance {k : Int} {ns : List Int} : Decidable (orderP k ns) := inferInstanceAs (Decidable (_ ∧ _))
theorem range_sorted (n : Nat) : ((List.range n).map fun (i : Nat) => (i : Int)).Pairwise (· ≤ ·) := by
  rw [List.pairwise_map]
  exact List.pairwise_lt_range.imp fun h => by omega
theorem sorted_perm {a b : List Int} (ha : a.Pairwise (· ≤ ·)) (hb : b.Pairwise (· ≤ ·)) (h : a.Perm b) : a = b :=
  List.Perm.eq_of_pairwise (fun x y _ _ h1 h2 => by omega) ha hb h
def orderV (H : Hp) (x : V) (k : Int) : Bool := match sqOf H x with
  | some xs => match intsV xs with
    | some ns => decide (orderP k ns)
    | none => false
  | none => false
end Jv
namespace Jv
open PySem PySem.Spec PyProof.Rows L2
section
variable {H : Hp} {x : V} {k : Int} {ns : List Int}
theorem lotV_of (e : sqOf H x = some (ns.map V.int)) : lotV H x k = decide (lotP k ns) := by
  unfold lotV; rw [e]; dsimp only; rw [iv_map]
theorem orderV_of (e : sqOf H x = some (ns.map V.int)) : orderV H x k = decide (orderP k ns) := by
  unfold orderV; rw [e]; dsimp only; rw [iv_map]
theorem kindsB_of (e : sqOf H x = some (ns.map V.int)) : kindsB H x k = decide (inK k ns) := by
  unfold kindsB; rw [e]; exact whole_all_iff
theorem kindsB_true (h : kindsB H x k = true) : ∃ ns, sqOf H x = some (ns.map V.int) ∧ inK k ns := by
  unfold kindsB at h
  cases e : sqOf H x with
  | none => rw [e] at h; cases h
  | some xs =>
    rw [e] at h
    obtain ⟨ns, rfl, q⟩ := whole_all h
    exact ⟨ns, rfl, q⟩
theorem lotV_false (h : kindsB H x k = false) : lotV H x k = false := by
  cases e : sqOf H x with
  | none => unfold lotV; rw [e]
  | some xs =>
    cases e2 : intsV xs with
    | none => unfold lotV; rw [e]; dsimp only; rw [e2]
    | some ns =>
      obtain rfl := iv_of e2
      rw [lotV_of e, decide_eq_false]
      rintro ⟨h1, _⟩
      rw [kindsB_of e, decide_eq_true h1] at h; cases h
theorem orderV_false (h : kindsB H x k = false) : orderV H x k = false := by
  cases e : sqOf H x with
  | none => unfold orderV; rw [e]
  | some xs =>
    cases e2 : intsV xs with
    | none => unfold orderV; rw [e]; dsimp only; rw [e2]
    | some ns =>
      obtain rfl := iv_of e2
      rw [orderV_of e, decide_eq_false]
      rintro ⟨h1, _⟩
      rw [kindsB_of e, decide_eq_true h1] at h; cases h
theorem lotV_true (h : lotV H x k = true) : ∃ ns, sqOf H x = some (ns.map V.int) ∧ lotP k ns := by
  cases e : sqOf H x with
  | none => unfold lotV at h; rw [e] at h; cases h
  | some xs =>
    cases e2 : intsV xs with
    | none => unfold lotV at h; rw [e] at h; dsimp only at h; rw [e2] at h; cases h
    | some ns =>
      obtain rfl := iv_of e2
      rw [lotV_of e] at h
      exact ⟨ns, rfl, of_decide_eq_true h⟩
theorem Sq.or {K : PySem.W.Frag} {a : Addr} {xs : List V} (h : H a = some (.lst xs) ∨ H a = some (.tup xs)) : SqL K H a xs ∨ SqT K H a xs := h.elim (fun h => .inl (sqL_at h)) fun h => .inr (sqT_at h)
end
end Jv
namespace Jv
open PySem PySem.Spec PyProof.Rows L2
theorem rgV0 {k : Int} : rgV 0 k = ((List.range k.toNat).map fun (i : Nat) => (i : Int)).map V.int := by
  unfold rgV
  rw [List.map_map, Int.sub_zero]
  refine List.map_congr_left fun i _ => ?_
  show V.int (0 + (i : Int)) = V.int i
  rw [Int.zero_add]
end Jv

/-! ### pairs of two ranges; data as lists of pairs -/
namespace Jv
open PySem PySem.Spec PyProof.Rows L2
/-- references to tuples of two ints that stand -/
def Tups (H : Hp) (refs : List V) (prs : List (Int × Int)) : Prop := Paired (fun v (pr : Int × Int) => ∃ t, v = V.ref t ∧ H t = some (.tup [.int pr.1, .int pr.2])) refs prs
theorem Paired.mono' {α β : Type} {F G : α → β → Prop} (h : ∀ a b, F a b → G a b) : ∀ {xs : List α} {ys : List β}, Paired F xs ys → Paired G xs ys
  | _, _, .nil => .nil
  | _, _, .cons r t => .cons (h _ _ r) (Paired.mono' h t)
theorem Paired.snoc {α β : Type} {F : α → β → Prop} {a : α} {b : β} (h : F a b) : ∀ {xs : List α} {ys : List β}, Paired F xs ys → Paired F (xs ++ [a]) (ys ++ [b])
  | _, _, .nil => .cons h .nil
  | _, _, .cons r t => .cons r (Paired.snoc h t)
theorem Tups.same {H H' : Hp} {refs : List V} {prs : List (Int × Int)} (h : Tups H refs prs) (s : Same H H') : Tups H' refs prs := Paired.mono' (fun _ _ ⟨t, e, q⟩ => ⟨t, e, s _ _ q⟩) h
theorem Tups.upd {H : Hp} {D : Addr} {o : HO} {refs : List V} {prs : List (Int × Int)} (h : Tups H refs prs) (n : ∀ xs, H D ≠ some (.tup xs)) : Tups (L2.upd H D o) refs prs :=
  Paired.mono' (fun _ _ ⟨t, e, q⟩ => ⟨t, e, by rw [upd_ne]; exact q; intro z; rw [z] at q; exact n _ q⟩) h
def pairsTo (q i j : Nat) : List (Int × Int) := ((List.range i).flatMap fun (e : Nat) => (List.range q).map fun (w : Nat) => ((e : Int), (w : Int))) ++ (List.range j).map fun (w : Nat) => ((i : Int), (w : Int))
def prs (p q : Nat) : List (Int × Int) := pairsTo q p 0
theorem pairsTo_next (q i : Nat) : pairsTo q i q = pairsTo q (i + 1) 0 := by
  unfold pairsTo
  rw [List.range_succ, List.flatMap_append]
  simp
theorem pairsTo_more (q i j : Nat) : pairsTo q i (j + 1) = pairsTo q i j ++ [((i : Int), (j : Int))] := by
  unfold pairsTo
  rw [List.range_succ (n := j), List.map_append, List.append_assoc]; rfl
theorem pairsTo_len (q i j : Nat) : (pairsTo q i j).length = i * q + j := by
  unfold pairsTo
  rw [List.length_append, List.length_map, List.length_range]
  congr 1
  induction i with
  | zero => simp
  | succ i ih => rw [List.range_succ, List.flatMap_append, List.length_append, ih]; simp [Nat.succ_mul]
section
variable {σ : L2.St} {H : Hp} {ta tb : TA} {te : TE} {Q : VK} {a b p q : Nat}
theorem lc2R (hp : p ≤ 20) (hq : q ≤ 20) (w1 : ∀ x, wipe ((wipe σ [a, b]).set a (some x)) [a, b] = wipe σ [a, b])
    (w2 : ∀ x y, wipe ((wipe ((wipe σ [a, b]).set a (some x)) [b]).set b (some y)) [b] = wipe ((wipe σ [a, b]).set a (some x)) [b])
    (hta : ∀ P : List V → Hp → Prop, P [.int p] H → ta σ H P)
    (htb : ∀ (i : Nat) H1, i < p → Same H H1 → ∀ P : List V → Hp → Prop, P [.int q] H1 → tb ((wipe σ [a, b]).set a (some (.int i))) H1 P)
    (hte : ∀ (i j : Nat) H1, i < p → j < q → Same H H1 → ∀ P : VK, (∀ t H2, Same H1 H2 → H1 t = none → H2 t = some (.tup [.int i, .int j]) → P (.ref t) H2) → te ((wipe ((wipe σ [a, b]).set a (some (.int i))) [b]).set b (some (.int j))) H1 P)
    (hd : ∀ D refs H1, Same H H1 → H D = none → H1 D = some (.lst refs) → Tups H1 refs (prs p q) → Q (.ref D) H1) :
    tLc2 (iRng1 ta) (gName a) tYes (iRng1 tb) (gName b) tYes te [a, b] [b] σ H Q := by
  refine hta _ ⟨p, rfl, by omega, by omega, fun D hD => ?_⟩
  have key : ∀ (i j : Nat) H1, (∃ refs, Same H H1 ∧ H1 D = some (.lst refs) ∧ Tups H1 refs (pairsTo q i j)) → ∃ refs, Same H H1 ∧ H1 D = some (.lst refs) ∧ Tups H1 refs (pairsTo q i j) := fun _ _ _ h => h
  refine ⟨fun i m H1 => m = p - i ∧ i ≤ p ∧ ∃ refs, Same H H1 ∧ H1 D = some (.lst refs) ∧ Tups H1 refs (pairsTo q i 0), ⟨p, by omega, by omega, [], same_new hD, upd_same, .nil⟩, ?_⟩
  rintro i m H1 ⟨rfl, hi, refs, s1, e1, t1⟩
  by_cases lt : i < p
  · refine .inr ⟨by show i < (p : Int).toNat; omega, fun H' => ∃ refs, Same H H' ∧ H' D = some (.lst refs) ∧ Tups H' refs (pairsTo q (i + 1) 0), fun H' h => ⟨p - (i + 1), by omega, rfl, lt, h⟩, ?_⟩
    rintro x H2 ⟨rfl, rfl⟩
    rw [Int.zero_add]
    refine ⟨w1 _, r_yes (r_true (c := true) rfl ?_)⟩
    refine htb i _ lt s1 _ ⟨q, rfl, by omega, by omega, ?_⟩
    refine ⟨fun j k H1 => k = q - j ∧ j ≤ q ∧ ∃ refs, Same H H1 ∧ H1 D = some (.lst refs) ∧ Tups H1 refs (pairsTo q i j), ⟨q, by omega, by omega, refs, s1, e1, t1⟩, ?_⟩
    rintro j k H3 ⟨rfl, hj, refs, s3, e3, t3⟩
    by_cases lt2 : j < q
    · refine .inr ⟨by show j < (q : Int).toNat; omega, fun H' => ∃ refs, Same H H' ∧ H' D = some (.lst refs) ∧ Tups H' refs (pairsTo q i (j + 1)), fun H' h => ⟨q - (j + 1), by omega, rfl, lt2, h⟩, ?_⟩
      rintro y H4 ⟨rfl, rfl⟩
      rw [Int.zero_add]
      refine ⟨w2 _ _, r_yes (r_true (c := true) rfl ?_)⟩
      refine hte i j _ lt lt2 s3 _ fun t H5 s5 ht h5 => ⟨refs, s5 _ _ e3, ?_, refs ++ [.ref t], ?_, upd_same, ?_⟩
      · have h1 := Paired.length t3
        have h2 := pairsTo_len q i j
        have h3 : i * q ≤ 20 * 20 := Nat.mul_le_mul (by omega) (by omega)
        exact small_lt (by omega)
      · intro c o hc
        exact kpO (s5 _ _ (s3 _ _ hc)) (ne_of_none hc hD)
      · rw [pairsTo_more]
        refine Tups.upd (Paired.snoc ⟨t, rfl, h5⟩ (t3.same s5)) fun xs z => ?_
        have := s5 _ _ e3
        rw [this] at z; cases z
    · have ej : j = q := by omega
      subst ej
      refine .inl ⟨by show (j : Int).toNat ≤ j; omega, refs, s3, e3, ?_⟩
      rw [← pairsTo_next]; exact t3
  · have ei : i = p := by omega
    subst ei
    exact .inl ⟨by show (i : Int).toNat ≤ i; omega, hd D refs _ s1 hD e1 t1⟩
end
end Jv
namespace Jv
open PySem PySem.Spec PyProof.Rows L2
theorem log_small {m : Int} (h0 : 0 < m) (h1 : m < 2 ^ 200) : m.natAbs.log2 < 9000 := Nat.lt_trans (PySem.Flt.log2_lt_of (n := m.natAbs) (k := 200) (by decide) (by omega)) (by decide)
theorem cdivS {i m : Int} (h0 : 0 < m) (h1 : m < 2 ^ 200) : CDivW i m := ⟨h0, log_small h0 h1⟩
end Jv
namespace Jv
open PySem PySem.Spec PyProof.Rows L2
section
variable {K : PySem.W.Frag} {σ : L2.St} {H : Hp} {Q : VK} {to : TE} {t : TA} {y : V}
theorem r_bm {T : String} {r : V → List V → Hp → VK → Prop} (h : to σ H fun x H1 => tyV K T x H1 ∧ t σ H1 fun xs H2 => r x xs H2 Q) : tBM K T r to t σ H Q := h
theorem r_tyL {p : Addr} {xs : List V} {P : Prop} (h : H p = some (.lst xs)) (q : P) : tyV K "list" (.ref p) H ∧ P := ⟨.inl ⟨rfl, xs, sqL_at h⟩, q⟩
theorem r_app {l : Addr} {xs : List V} (h : H l = some (.lst xs)) (hz : xs.length < 1000) (q : Q .non (upd H l (.lst (xs ++ [y])))) : rAppend (.ref l) [y] H Q := ⟨l, xs, y, rfl, rfl, h, small_lt hz, q⟩
theorem seqIx {k : Int} {n : Nat} (h0 : 0 ≤ k) (h1 : k.toNat < n) : seqIndex? k n = some k.toNat := by
  unfold seqIndex?
  simp; omega
theorem r_popAt {l : Addr} {xs : List V} {k : Int} (h : H l = some (.lst xs)) (h0 : 0 ≤ k) (h1 : k < 1000) (e : xs[k.toNat]? = some y) (q : Q y (upd H l (.lst (xs.eraseIdx k.toNat)))) : rPopAt (.ref l) [.int k] H Q :=
  ⟨l, xs, k, k.toNat, y, rfl, rfl, h, by omega, by omega, seqIx h0 (List.getElem?_eq_some_iff.mp e).1, e, q⟩
theorem erase_perm : ∀ {l : List Int} {k : Nat} {z : Int}, l[k]? = some z → (z :: l.eraseIdx k).Perm l
  | [], k, z, h => by simp at h
  | a :: r, 0, z, h => by
    have e : a = z := Option.some.inj h
    subst e; exact .refl _
  | a :: r, k + 1, z, h => (List.Perm.swap a z _).trans (List.Perm.cons a (erase_perm (l := r) (k := k) h))
theorem pop_perm {ns ms : List Int} {k : Nat} {z : Int} (e : ms[k]? = some z) : ((ns ++ [z]) ++ ms.eraseIdx k).Perm (ns ++ ms) := by
  rw [List.append_assoc]
  exact List.Perm.append_left ns (erase_perm e)
def rgI (n : Nat) : List Int := (List.range n).map fun (i : Nat) => (i : Int)
end
theorem rises_no {ns : List Int} {k b z : Int} {i : Nat} (hz : ns[i]? = some z) (hb : b = -1 ∨ b ∈ ns.take i) (h : ¬ (b < z ∧ z < k)) : ¬ lotP k ns := fun ⟨h1, _, h3⟩ => by
  obtain ⟨a0, a1⟩ := h1 z (List.mem_of_getElem? hz)
  refine h ⟨?_, by omega⟩
  rcases hb with rfl | hb
  · omega
  · obtain ⟨hi, rfl⟩ := List.getElem?_eq_some_iff.mp hz
    rw [← List.take_append_drop i ns, List.pairwise_append] at h3
    exact h3.2.2 b hb _ (by rw [List.mem_iff_getElem]; exact ⟨0, by rw [List.length_drop]; omega, by simp⟩)
end Jv
namespace Jv
open PySem PySem.Spec PyProof.Rows L2
theorem erase_map : ∀ (l : List Int) (j : Nat), (l.map V.int).eraseIdx j = (l.eraseIdx j).map V.int
  | [], _ => rfl
  | _ :: _, 0 => rfl
  | a :: r, j + 1 => congrArg (V.int a :: ·) (erase_map r j)
end Jv

/-! ### keyword calls, dict displays, things that are refused -/
namespace Jv
open PySem PySem.Spec PyProof.Rows L2
section
variable {K : PySem.W.Frag} {σ : L2.St} {H : Hp} {t tk : TA} {te tv : TE} {Q : VK} {A B : Prop}
theorem r_callN {n m : Nat} {sp : Sp} {gV : List V → List V → List V} {E : XK} (h : t σ H fun vs H1 => tk σ H1 fun zs H2 => vs.length = n ∧ zs.length = m ∧ sp (gV vs zs) H2 Q E) : tCallN n m sp gV E t tk σ H Q := h
theorem r_disp1 {k v : Int} (q : ∀ p, H p = none → Q (.ref p) (upd H p (.dK [(.inl k, .int v)]))) : tDisp [(tC (.int k), tC (.int v))] σ H Q := fun p hp =>
  ⟨upd_same, [(.inl k, .int v)], rfl, Nat.le_of_ble_eq_true rfl, by rw [upd_upd]; exact q p hp⟩
theorem r_disp2 {k v k' v' : Int} (ne : k ≠ k') (q : ∀ p, H p = none → Q (.ref p) (upd H p (.dK [(.inl k, .int v), (.inl k', .int v')]))) : tDisp [(tC (.int k), tC (.int v)), (tC (.int k'), tC (.int v'))] σ H Q := fun p hp =>
  ⟨upd_same, [(.inl k, .int v), (.inl k', .int v')], rfl, Nat.le_of_ble_eq_true rfl, by
    rw [upd_upd]
    have e : mergeK ([] : List (Key × V)) [(.inl k, .int v), (.inl k', .int v')] = [(.inl k, .int v), (.inl k', .int v')] := by
      simp [mergeK, putK, ne]
    rw [e]; exact q p hp⟩
theorem r_same {b : Bool} (q : B) : if (!decide (b = b)) = true then A else B := r_false (by rw [decide_eq_true rfl]; rfl) q
theorem r_same' {b c : Bool} (e : b = c) (q : B) : if (!decide (b = c)) = true then A else B := by subst e; exact r_same q
/-- the same, in a condition that is not yet an if -/
theorem r_dsame {P : Bool → Prop} {b : Bool} (q : P true) : P (decide (b = b)) := by rw [decide_eq_true rfl]; exact q
theorem r_and_k {te ta : TE} {c : Bool} (h : te σ H fun x H1 => ∃ c, x = .bl c ∧ if c = true then ta σ H1 Q else Q (.bl false) H1) : tAndV te ta σ H Q := h
end
/-- a thing that is neither a lot nor an order nor sides nor a couple -/
def BadTh (H : Hp) (x : V) : Prop := ThS H x ∧ ∀ xs, sqOf H x = some xs → intsV xs = none
theorem BadTh.same {H H' : Hp} {x : V} (h : BadTh H x) (s : Same H H') : BadTh H' x := ⟨h.1.same s, fun xs e => h.2 xs (by rw [← sqOf_same h.1.1 s]; exact e)⟩
theorem BadTh.lot {H : Hp} {x : V} {k : Int} (h : BadTh H x) : lotV H x k = false := by
  unfold lotV
  cases e : sqOf H x with
  | none => rfl
  | some xs => dsimp only; rw [h.2 xs e]
theorem BadTh.order {H : Hp} {x : V} {k : Int} (h : BadTh H x) : orderV H x k = false := by
  unfold orderV
  cases e : sqOf H x with
  | none => rfl
  | some xs => dsimp only; rw [h.2 xs e]
section
variable {H : Hp}
theorem bad_sc {x : V} (h : Th H x) (n : sqOf H x = none) : BadTh H x := ⟨⟨h, fun xs q => by rw [q.of] at n; cases n⟩, fun xs e => by rw [n] at e; cases e⟩
theorem bad_dK {a : Addr} {kvs : List (Key × V)} (h : H a = some (.dK kvs)) : BadTh H (.ref a) := bad_sc (.inr (.inr ⟨_, h⟩)) (by simp [sqOf, h])
theorem bad_sq {a : Addr} {xs : List V} (h : H a = some (.lst xs) ∨ H a = some (.tup xs)) (few : xs.length ≤ 60) (th : ∀ v ∈ xs, Th H v) (n : intsV xs = none) : BadTh H (.ref a) := by
  have sq : Sq H (.ref a) xs := ⟨a, rfl, h⟩
  refine ⟨⟨sq.th, fun ys q => ?_⟩, fun ys e => ?_⟩
  · have e := q.of; rw [sq.of] at e; cases e; exact ⟨few, th⟩
  · rw [sq.of] at e; cases e; exact n
theorem thS_ints {a : Addr} {ns : List Int} (h : H a = some (.lst (ns.map V.int)) ∨ H a = some (.tup (ns.map V.int))) (few : ns.length ≤ 60) : ThS H (.ref a) := by
  have sq : Sq H (.ref a) (ns.map V.int) := ⟨a, rfl, h⟩
  refine ⟨sq.th, fun ys q => ?_⟩
  have e := q.of; rw [sq.of] at e; cases e
  refine ⟨by rw [List.length_map]; exact few, fun v hv => ?_⟩
  obtain ⟨i, _, rfl⟩ := List.mem_map.mp hv
  trivial
theorem wholeV_not {x lo hi : V} (h : isI x = false) : wholeV x lo hi = false := by
  cases x with
  | int i => cases h
  | _ => rfl
theorem shaped_bad {d : PyData} (h : PyData.canLay0 d = true) (h2 : PyData.depth d = 0) : SeqAt.shaped (.list [.str "bad", d]) = true := by
  simp [SeqAt.shaped, PyData.canLay0, PyData.depth, PyData.canLayAll0, PyData.depthAll, h, h2]; decide +kernel
end
end Jv

/-! ### data: none, truths, whole numbers, texts, lists that stand, tuples that stand or are the program's own -/
namespace Jv
open PySem PySem.Spec PyProof.Rows L2
mutual
inductive Dv (K : PySem.W.Frag) (H : Hp) : V → PyData → Prop
  | non : Dv K H .non .none
  | bl (b : Bool) : Dv K H (.bl b) (.bool b)
  | int (i : Int) : Dv K H (.int i) (.int i)
  | str (x : Str) : Dv K H (.str x) (.str x)
  | lst {a : Addr} {xs : List V} {ds : List PyData} : H a = some (.lst xs) → DvAll K H xs ds → Dv K H (.ref a) (.list ds)
  | tup {a : Addr} {xs : List V} {ds : List PyData} : SqT K H a xs → DvAll K H xs ds → Dv K H (.ref a) (.tuple ds)
inductive DvAll (K : PySem.W.Frag) (H : Hp) : List V → List PyData → Prop
  | nil : DvAll K H [] []
  | cons {v : V} {vs : List V} {d : PyData} {ds : List PyData} : Dv K H v d → DvAll K H vs ds → DvAll K H (v :: vs) (d :: ds)
end
mutual
theorem Dv.same {K : PySem.W.Frag} {H H' : Hp} (s : Same H H') : ∀ {v : V} {d : PyData}, Dv K H v d → Dv K H' v d
  | _, _, .non => .non
  | _, _, .bl b => .bl b
  | _, _, .int i => .int i
  | _, _, .str x => .str x
  | _, _, .lst h q => .lst (s _ _ h) (DvAll.same s q)
  | _, _, .tup h q => .tup (Jv.Same.sqT s h) (DvAll.same s q)
theorem DvAll.same {K : PySem.W.Frag} {H H' : Hp} (s : Same H H') : ∀ {vs : List V} {ds : List PyData}, DvAll K H vs ds → DvAll K H' vs ds
  | _, _, .nil => .nil
  | _, _, .cons a b => .cons (Dv.same s a) (DvAll.same s b)
end
mutual
theorem Dv.dp {K : PySem.W.Frag} {H : Hp} : ∀ {v : V} {d : PyData}, Dv K H v d → Dp K H v d
  | _, _, .non => .non
  | _, _, .bl b => .bl b
  | _, _, .int i => .int i
  | _, _, .str x => .str x
  | _, _, .lst h q => .lst (sqL_at h) (DvAll.dp q)
  | _, _, .tup h q => .tup h (DvAll.dp q)
theorem DvAll.dp {K : PySem.W.Frag} {H : Hp} : ∀ {vs : List V} {ds : List PyData}, DvAll K H vs ds → DpAll K H vs ds
  | _, _, .nil => .nil
  | _, _, .cons a b => .cons (Dv.dp a) (DvAll.dp b)
end
section
variable {K : PySem.W.Frag} {H : Hp} {v : V} {d : PyData} {vs : List V} {ds : List PyData}
theorem DvAll.len : ∀ {vs : List V} {ds : List PyData}, DvAll K H vs ds → vs.length = ds.length
  | _, _, .nil => rfl
  | _, _, .cons _ b => congrArg (· + 1) (DvAll.len b)
theorem DvAll.snoc (h : Dv K H v d) : ∀ {vs : List V} {ds : List PyData}, DvAll K H vs ds → DvAll K H (vs ++ [v]) (ds ++ [d])
  | _, _, .nil => .cons h .nil
  | _, _, .cons a b => .cons a (DvAll.snoc h b)
theorem DvAll.at : ∀ {vs : List V} {ds : List PyData} {i : Nat} {v : V}, DvAll K H vs ds → vs[i]? = some v → ∃ d, ds[i]? = some d ∧ Dv K H v d
  | _, _, _, _, .nil, e => by simp at e
  | _, _, 0, _, .cons a _, e => by
    simp at e; subst e; exact ⟨_, rfl, a⟩
  | _, _, i + 1, _, .cons _ b, e => by
    simp at e ⊢; exact DvAll.at b e
theorem DvAll.of : ∀ {vs : List V} {ds : List PyData} {i : Nat} {d : PyData}, DvAll K H vs ds → ds[i]? = some d → ∃ v, vs[i]? = some v ∧ Dv K H v d
  | _, _, _, _, .nil, e => by simp at e
  | _, _, 0, _, .cons a _, e => by
    simp at e; subst e; exact ⟨_, rfl, a⟩
  | _, _, i + 1, _, .cons _ b, e => by
    simp at e ⊢; exact DvAll.of b e
theorem dv_ints : ∀ ns : List Int, DvAll K H (ns.map V.int) (ns.map PyData.int)
  | [] => .nil
  | a :: r => .cons (.int a) (dv_ints r)
end
/-- what sort a thing is -/
def tyD : PyData → String
  | .none => "NoneType"
  | .bool _ => "bool"
  | .int _ => "int"
  | .str _ => "str"
  | .list _ => "list"
  | .tuple _ => "tuple"
  | _ => "object"
def boolD : PyData → Bool
  | .bool _ => true
  | _ => false
def intD : PyData → Bool
  | .int _ => true
  | _ => false
def seqD : PyData → Option (List PyData)
  | .list xs => some xs
  | .tuple xs => some xs
  | _ => none
section
variable {K : PySem.W.Frag} {H : Hp} {v : V} {d : PyData} {Q : VK}
theorem SqT.tyX {a : Addr} {xs : List V} (h : SqT K H a xs) : TyX K H (.ref a) (.type "tuple") := by
  rcases h with (h | ⟨o, h⟩) | ⟨o, its, n, h, c, _⟩
  · exact .base (.tup h)
  · exact .fTuple h
  · exact .kTuple h c
theorem Dv.ty (h : Dv K H v d) : TyX K H v (.type (tyD d)) := by
  cases h with
  | non => exact .base .non
  | bl b => exact .base (.bl b)
  | int i => exact .base (.int i)
  | str x => exact .base (.str x)
  | lst h _ => exact .base (.lst h)
  | tup h _ => exact SqT.tyX h
theorem Dv.kits (h : Dv K H v d) : kitB (tyD d) "bool" = some (boolD d) ∧ kitB (tyD d) "int" = some (boolD d || intD d) ∧ kitB (tyD d) "list" = some (tyD d == "list") ∧ kitB (tyD d) "tuple" = some (tyD d == "tuple") ∧ kitB (tyD d) "str" = some (tyD d == "str") ∧ ((tyD d == "list") || (tyD d == "tuple")) = (seqD d).isSome := by
  cases h with
  | non => exact ⟨(by decide +kernel : kitB "NoneType" "bool" = some false), (by decide +kernel : kitB "NoneType" "int" = some false), (by decide +kernel : kitB "NoneType" "list" = some ("NoneType" == "list")), (by decide +kernel : kitB "NoneType" "tuple" = some ("NoneType" == "tuple")), (by decide +kernel : kitB "NoneType" "str" = some ("NoneType" == "str")), (by decide +kernel : (("NoneType" == "list") || ("NoneType" == "tuple")) = false)⟩
  | bl b => exact ⟨(by decide +kernel : kitB "bool" "bool" = some true), (by decide +kernel : kitB "bool" "int" = some true), (by decide +kernel : kitB "bool" "list" = some ("bool" == "list")), (by decide +kernel : kitB "bool" "tuple" = some ("bool" == "tuple")), (by decide +kernel : kitB "bool" "str" = some ("bool" == "str")), (by decide +kernel : (("bool" == "list") || ("bool" == "tuple")) = false)⟩
  | int i => exact ⟨(by decide +kernel : kitB "int" "bool" = some false), (by decide +kernel : kitB "int" "int" = some true), (by decide +kernel : kitB "int" "list" = some ("int" == "list")), (by decide +kernel : kitB "int" "tuple" = some ("int" == "tuple")), (by decide +kernel : kitB "int" "str" = some ("int" == "str")), (by decide +kernel : (("int" == "list") || ("int" == "tuple")) = false)⟩
  | str x => exact ⟨(by decide +kernel : kitB "str" "bool" = some false), (by decide +kernel : kitB "str" "int" = some false), (by decide +kernel : kitB "str" "list" = some ("str" == "list")), (by decide +kernel : kitB "str" "tuple" = some ("str" == "tuple")), (by decide +kernel : kitB "str" "str" = some ("str" == "str")), (by decide +kernel : (("str" == "list") || ("str" == "tuple")) = false)⟩
  | lst _ _ => exact ⟨(by decide +kernel : kitB "list" "bool" = some false), (by decide +kernel : kitB "list" "int" = some false), (by decide +kernel : kitB "list" "list" = some ("list" == "list")), (by decide +kernel : kitB "list" "tuple" = some ("list" == "tuple")), (by decide +kernel : kitB "list" "str" = some ("list" == "str")), (by decide +kernel : (("list" == "list") || ("list" == "tuple")) = true)⟩
  | tup _ _ => exact ⟨(by decide +kernel : kitB "tuple" "bool" = some false), (by decide +kernel : kitB "tuple" "int" = some false), (by decide +kernel : kitB "tuple" "list" = some ("tuple" == "list")), (by decide +kernel : kitB "tuple" "tuple" = some ("tuple" == "tuple")), (by decide +kernel : kitB "tuple" "str" = some ("tuple" == "str")), (by decide +kernel : (("tuple" == "list") || ("tuple" == "tuple")) = true)⟩
theorem d_isB (h : Dv K H v d) (q : Q (.bl (boolD d)) H) : rIsi K [v, .ty "bool"] H Q := ⟨v, _, _, _, _, rfl, .ty _, h.ty, kit_ty h.kits.1, q⟩
theorem d_isI (h : Dv K H v d) (q : Q (.bl (boolD d || intD d)) H) : rIsi K [v, .ty "int"] H Q := ⟨v, _, _, _, _, rfl, .ty _, h.ty, kit_ty h.kits.2.1, q⟩
theorem d_isT (h : Dv K H v d) (q : Q (.bl (tyD d == "tuple")) H) : rIsi K [v, .ty "tuple"] H Q := ⟨v, _, _, _, _, rfl, .ty _, h.ty, kit_ty h.kits.2.2.2.1, q⟩
theorem d_isStr (h : Dv K H v d) (q : Q (.bl (tyD d == "str")) H) : rIsi K [v, .ty "str"] H Q := ⟨v, _, _, _, _, rfl, .ty _, h.ty, kit_ty h.kits.2.2.2.2.1, q⟩
theorem d_isS {p : Addr} (hp : H p = some (.tup [.ty "list", .ty "tuple"])) (h : Dv K H v d) (q : Q (.bl (seqD d).isSome) H) : rIsiT K [v, .ref p] H Q := by
  obtain ⟨_, _, h2, h3, _, h4⟩ := h.kits
  refine ⟨v, p, _, _, _, (seqD d).isSome, rfl, hp, .cons (.ty _) (.cons (.ty _) .nil), h.ty, ?_, q⟩
  refine kitAny_cons (kit_ty h2) (fun e => ?_) fun e => by rw [← h4, e]; rfl
  refine kitAny_cons (kit_ty h3) (fun e2 => ?_) fun e2 => by rw [← h4, e2, Bool.or_true]
  rw [kitAny_nil, ← h4, e, e2]; rfl
/-- a sequence's items -/
theorem Dv.seq (h : Dv K H v d) {ds : List PyData} (e : seqD d = some ds) : ∃ a xs, v = .ref a ∧ (SqL K H a xs ∨ SqT K H a xs) ∧ DvAll K H xs ds := by
  cases h with
  | lst h q => cases e; exact ⟨_, _, rfl, .inl (sqL_at h), q⟩
  | tup h q => cases e; exact ⟨_, _, rfl, .inr h, q⟩
  | _ => cases e
end
/-- is_whole's answer, of data -/
def wholeD : PyData → V → V → Bool
  | .int i, lo, hi => loOk lo i && hiOk hi i
  | _, _, _ => false
end Jv

/-! ### methods, makings that may raise within a try; static methods; readings of objects -/
namespace Jv
open PySem PySem.Spec PyProof.Rows L2
section
variable {X : Cx} {CX : CXT} {k : Nat} {f C : Addr} {fd : FuncData} {ps : List Str} {sp : Sp} {dvs : List V} {ds : List Value} {E : L2.St → XK} {x m : Str} {p pos apos : Pos} {e o : Expr} {es : List Expr} {ta : TE} {t : TA}
theorem run_fnX {pins : List (Addr × Obj)} {σ : L2.St} {H : Hp} {s : Shared} {Q : VK} {us : List Value} {vs : List V} (F : FnOk X.prog X.w X.K X.mg X.base CX k f fd ps sp) (hr : Room k X.A) (hb : Binds X.K fd ps ds) (hd : Vals dvs ds) (hx : PassesAt CX X σ (E σ))
    (I : Inv X pins σ H s) (r : Vals vs us) (h : sp (vs ++ dvs) H Q (E σ)) : wpAny (model X.prog X.w) X.A (call (.ref f) us) (EP X pins σ Q) X.xe s := by
  have r2 : Vals (vs ++ dvs) (us ++ ds) := r.append hd
  have hl : (us ++ ds).length = ps.length := by rw [← r2.length]; exact F.len _ _ _ _ h
  refine wpAny_call (codeAny_mono (F.run X.A X.stack s H ⟨us, []⟩ (us ++ ds) (vs ++ dvs) Q (E σ) hr I.env0 (hb s us I.kIn hl) r2 h) fun r s' hq => ?_)
  cases r with
  | error e => exact hx pins H s e s' I hq
  | ok fl =>
    cases fl with
    | ret u => exact I.after hq
    | next => exact False.elim hq
    | brk => exact False.elim hq
    | cont => exact False.elim hq
def tMethX (C : Addr) (m : Str) (sp : Sp) (dvs : List V) (E : L2.St → XK) (ta : TE) (t : TA) : TE := fun σ H Q => ta σ H fun x H1 => ∃ a dx fs, x = .ref a ∧ H1 a = some (.ins C dx fs) ∧ fs.lookup m = none ∧
  t σ H1 fun vs H2 => sp (x :: (vs ++ dvs)) H2 Q (E σ)
theorem pe_methX {pl : Sem Bool} (he : PE X o ta) (c : Cls X.K C) (hm : Meth X.K C m f) (F : FnOk X.prog X.w X.K X.mg X.base CX k f fd ps sp) (hr : Room k X.A) (hb : Binds X.K fd ps ds) (hd : Vals dvs ds) (hx : ∀ σ, PassesAt CX X σ (E σ)) (ha : PA X (e :: es) t)
    (hst : starEach (e :: es) X.env = (false, eval e X.env) :: starEach es X.env := by rfl) (hpl : (backTo pos (starEach es X.env)).any (·.1) = false := by rfl)
    (ht : eval (.Call (.Attribute o m apos) (e :: es) [] pos) X.env = (do
      let ov ← eval o X.env
      standAt apos.atName
      let (f, first) ← holding [ov] (getMethod ov m pl)
      callWith pos f first (backTo pos (starEach (e :: es) X.env)) (backToKw pos (keywordEach [] X.env))) := by rfl) :
    PE X (.Call (.Attribute o m apos) (e :: es) [] pos) (tMethX C m sp dvs E ta t) := by
  refine ⟨fun pins s σ H Q I h => ?_⟩
  refine PySem.W.methodCall_KW (pl := pl) (thn (he.run pins s σ H _ I h) fun u s1 ⟨x, H1, I1, rx, a, dx, fs, ex, ea, l, q⟩ => ?_) ht
  subst ex
  obtain rfl : u = Value.ref a := rx
  refine getmeth_ok I1 ea c hm l ?_
  refine PySem.W.callWith_K (first := [.ref a]) (h₀ := X.base) I.ok.mod.kin hm.kp (thn (ha.run pos pins s1 σ H1 _ I1 q) fun us s2 ⟨vs, H2, I2, r, q2⟩ => ⟨I2.kIn, ?_⟩) hst hpl
  exact run_fnX (us := .ref a :: us) (vs := .ref a :: vs) F hr hb hd (hx σ) I2 (.cons rfl r) q2
def tMakeX (C : Addr) (sp : Sp) (dvs : List V) (E : L2.St → XK) (t : TA) : TE := fun σ H Q => t σ H fun vs H1 => ∀ x dx, H1 x = none → H1 dx = none → dx ≠ x →
  sp (.ref x :: (vs ++ dvs)) (upd (upd H1 dx (.own x)) x (.ins C dx [])) (fun v H2 => v = .non ∧ Q (.ref x) H2) (E σ)
theorem run_makeX {pins : List (Addr × Obj)} {σ : L2.St} {H : Hp} {s : Shared} {Q : VK} {us : List Value} {vs : List V} (M : Mk X.K C f) (F : FnOk X.prog X.w X.K X.mg X.base CX k f fd ps sp) (hr : Room (k + 1) X.A) (hb : Binds X.K fd ps ds) (hd : Vals dvs ds)
    (hx : PassesAt CX X σ (E σ)) (I : Inv X pins σ H s) (r : Vals vs us)
    (h : ∀ x dx, H x = none → H dx = none → dx ≠ x → sp (.ref x :: (vs ++ dvs)) (upd (upd H dx (.own x)) x (.ins C dx [])) (fun v H2 => v = .non ∧ Q (.ref x) H2) (E σ)) :
    wpAny (model X.prog X.w) X.A (call (.ref C) us) (EP X pins σ Q) X.xe s := by
  have hq := h (s.heap.objs.size + 1) s.heap.objs.size (I.hok.fresh (Nat.le_succ _)) (I.hok.fresh (Nat.le_refl _)) (Nat.ne_of_lt (Nat.lt_succ_self _))
  have I2 := Inv.made (C := C) I
  have r2 : Vals (V.ref (s.heap.objs.size + 1) :: (vs ++ dvs)) (Value.ref (s.heap.objs.size + 1) :: (us ++ ds)) := .cons rfl (r.append hd)
  have hl : (Value.ref (s.heap.objs.size + 1) :: us ++ ds).length = ps.length := by
    have e := r2.length
    rw [F.len _ _ _ _ hq] at e
    exact e.symm
  refine wpAny_call (make_map (f := f) I.kIn M.makes M.init (beq_iff_eq.mp M.fn) (codeAny_mono (F.run _ X.stack _ _ ⟨Value.ref (s.heap.objs.size + 1) :: us, []⟩ (Value.ref (s.heap.objs.size + 1) :: (us ++ ds)) _ _ (E σ) (hr.make C us [])
    (I2.env0.make C us []) (hb _ (Value.ref (s.heap.objs.size + 1) :: us) I2.kIn hl) r2 hq) fun r s' hq' => ?_))
  cases r with
  | error e => exact hx pins _ _ e s' I2 hq'
  | ok fl =>
    cases fl with
    | ret u =>
      obtain ⟨v, H', I3, rv, ev, q3⟩ := I2.after hq'
      subst ev
      exact ⟨rv, ⟨V.ref (s.heap.objs.size + 1), H', I3, rfl, q3⟩⟩
    | next => exact False.elim hq'
    | brk => exact False.elim hq'
    | cont => exact False.elim hq'
theorem pe_makeX (M : Mk X.K C f) (F : FnOk X.prog X.w X.K X.mg X.base CX k f fd ps sp) (hr : Room (k + 1) X.A) (hg : Gl X x) (hm : X.mg x = some (.ref C)) (hb : Binds X.K fd ps ds) (hd : Vals dvs ds) (hx : ∀ σ, PassesAt CX X σ (E σ))
    (ha : PA X (e :: es) t) (hdb : (x == ("__debug__" : Str)) = false := by decide) (he : starEach (e :: es) X.env = (false, eval e X.env) :: starEach es X.env := by rfl) (hpl : (backTo pos (starEach es X.env)).any (·.1) = false := by rfl) :
    PE X (.Call (.Name x p) (e :: es) [] pos) (tMakeX C sp dvs E t) := by
  refine ⟨fun pins s σ H Q I h => ?_⟩
  refine wpAny_Call_Name_kw (ld_glob I hg hm ?_ hdb)
  refine PySem.W.callWith_K (h₀ := X.base) I.ok.mod.kin M.kp (thn (ha.run pos pins s σ H _ I h) fun us s1 ⟨vs, H1, I1, r, q⟩ => ⟨I1.kIn, ?_⟩) he hpl
  exact run_makeX M F hr hb hd (hx σ) I1 r q
end
/-- C.m is a static method: its record at p, its def at g -/
structure SMet (K : PySem.W.Frag) (C : Addr) (mc : Value) (m : Str) (p g : Addr) : Prop where
  rd : PySem.W.readsIn K C mc = true
  ga : PySem.W.specialIn K (.ref C) "__getattribute__" = some (some (.builtin "type.__getattribute__"))
  at_ : PySem.W.findCls K (.ref C) mc m = some (.get (.builtin "staticmethod.__get__") (.ref p) .none (.ref C))
  rc : ∃ rest, PySem.W.recIn K p "staticmethod" = some (.ref g :: rest)
  kp : PySem.W.keepIn K (.ref g) = true
section
variable {X : Cx} {CX : CXT} {k : Nat} {g p C : Addr} {mc : Value} {fd : FuncData} {ps : List Str} {sp : Sp} {dvs : List V} {ds : List Value} {E : XK} {m : Str} {pos apos : Pos} {e o : Expr} {es : List Expr} {ta : TE} {t : TA}
def tSMeth (C : Addr) (sp : Sp) (dvs : List V) (E : XK) (ta : TE) (t : TA) : TE := fun σ H Q => ta σ H fun x H1 => x = .ref C ∧ t σ H1 fun vs H2 => sp (vs ++ dvs) H2 Q E
theorem getsm_ok {pins : List (Addr × Obj)} {σ : L2.St} {H : Hp} {s : Shared} {A : Around} {E : Value → Shared → Prop} {pl : Sem Bool} {Q : Value × List Value → Shared → Prop} (I : Inv X pins σ H s) (r : SMet X.K C mc m p g)
    (h : ∀ s', Inv X pins σ H s' → Q (.ref g, []) s') : wpAny (model X.prog X.w) A (getMethod (.ref C) m pl) Q E s := by
  obtain ⟨rest, hp⟩ := r.rc
  refine PySem.W.method_cls I.kIn r.ga (PySem.W.cls_bind I.kIn r.rd r.at_ ?_)
  exact wpAny_call (PySem.W.sm_get (s := { s with toks := s.toks + 1 }) I.kIn hp (PySem.W.handed_on rfl (h _ (I.tok _))))
theorem pe_smeth {pl : Sem Bool} (he : PE X o ta) (c : SMet X.K C mc m p g) (F : FnOk X.prog X.w X.K X.mg X.base CX k g fd ps sp) (hr : Room k X.A) (hb : Binds X.K fd ps ds) (hd : Vals dvs ds) (hx : Passes CX X E) (ha : PA X (e :: es) t)
    (hst : starEach (e :: es) X.env = (false, eval e X.env) :: starEach es X.env := by rfl) (hpl : (backTo pos (starEach es X.env)).any (·.1) = false := by rfl)
    (ht : eval (.Call (.Attribute o m apos) (e :: es) [] pos) X.env = (do
      let ov ← eval o X.env
      standAt apos.atName
      let (f, first) ← holding [ov] (getMethod ov m pl)
      callWith pos f first (backTo pos (starEach (e :: es) X.env)) (backToKw pos (keywordEach [] X.env))) := by rfl) :
    PE X (.Call (.Attribute o m apos) (e :: es) [] pos) (tSMeth C sp dvs E ta t) := by
  refine ⟨fun pins s σ H Q I h => ?_⟩
  refine PySem.W.methodCall_KW (pl := pl) (thn (he.run pins s σ H _ I h) fun u s1 ⟨x, H1, I1, rx, ex, q⟩ => ?_) ht
  subst ex
  obtain rfl : u = Value.ref C := rx
  refine getsm_ok I1 c fun s2 I2 => ?_
  refine PySem.W.callWith_K (first := []) (h₀ := X.base) I.ok.mod.kin c.kp (thn (ha.run pos pins s2 σ H1 _ I2 q) fun us s3 ⟨vs, H2, I3, rv, q2⟩ => ⟨I3.kIn, ?_⟩) hst hpl
  exact run_fn F hr hb hd hx I3 rv q2
end
end Jv

/-! ### is True, is False of any thing; faults caught by one of two names -/
namespace Jv
open PySem PySem.Spec PyProof.Rows L2
/-- a is b, b True or False -/
def rIsT : R2 := fun x y H Q => ∃ b : Bool, y = .bl b ∧ Q (.bl (decide (x = .bl b))) H
theorem op_isT {X : Cx} : OpR X (compareOp .Is) rIsT := by
  intro pins s σ H x y v u Q I rx ry h
  obtain ⟨b, rfl, q⟩ := h
  cases (show u = Value.bool b from ry)
  by_cases e : x = .bl b
  · subst e
    cases (show v = Value.bool b from rx)
    exact wpAny_is_self rfl ⟨.bl true, H, I, rfl, by simpa using q⟩
  · have e2 : decide (x = .bl b) = false := decide_eq_false e
    rw [e2] at q
    refine wpAny_is_other ?_ ?_ ⟨.bl false, H, I, rfl, q⟩
    · cases x <;> first
        | (cases rx; rfl)
        | (obtain ⟨t, rfl⟩ := rx; rfl)
    · intro z
      cases x with
      | bl c => cases (show v = Value.bool c from rx); exact e (by cases z; rfl)
      | non => cases rx; cases z
      | int i => obtain ⟨t, rfl⟩ := rx; cases z
      | str i => obtain ⟨t, rfl⟩ := rx; cases z
      | byt i => obtain ⟨t, rfl⟩ := rx; cases z
      | flt i => obtain ⟨t, rfl⟩ := rx; cases z
      | ref a => cases (show v = Value.ref a from rx); cases z
      | ty a => cases (show v = Value.type a from rx); cases z
end Jv

/-! ### sequences that stand or are the program's own; walks, comprehensions over them; data's answers -/
namespace Jv
open PySem PySem.Spec PyProof.Rows L2
def Sk (K : PySem.W.Frag) (H : Hp) (x : V) (xs : List V) : Prop := ∃ a, x = .ref a ∧ (SqL K H a xs ∨ SqT K H a xs)
section
variable {K : PySem.W.Frag} {σ : L2.St} {H H' : Hp} {te : TE} {Q : VK} {xs : List V} {ds : List PyData} {j i : Nat} {x v : V} {d : PyData}
theorem Sk.same (h : Sk K H x xs) (s : Same H H') : Sk K H' x xs := by
  obtain ⟨a, rfl, h | h⟩ := h
  · exact ⟨a, rfl, .inl (s.seq h)⟩
  · exact ⟨a, rfl, .inr (Jv.Same.sqT s h)⟩
theorem Dv.sk (h : Dv K H v d) (e : seqD d = some ds) : ∃ xs, Sk K H v xs ∧ DvAll K H xs ds := by
  obtain ⟨a, xs, e1, e2, e3⟩ := h.seq e
  exact ⟨xs, ⟨a, e1, e2⟩, e3⟩
theorem Sk.len (h : Sk K H x xs) (q : Q (.int xs.length) H) : rLenK K [x] H Q := by
  obtain ⟨a, rfl, h⟩ := h
  exact r_len h q
theorem Sk.ix (h : Sk K H x xs) {k : Int} {v : V} (e : atI xs k = some v) (q : Q v H) : rIx K x (.int k) H Q := by
  obtain ⟨a, rfl, h | h⟩ := h
  · exact .inl (r_ixL h e q)
  · exact .inr (.inl (r_ixT h e q))
/-- over a name that holds a list or a tuple -/
theorem lcK (hv : σ[i]? = some (some x)) (hx : Sk K H x xs) (f : V → V) (few : xs.length ≤ 1000)
    (hs : ∀ v H1, v ∈ xs → Same H H1 → ∀ P : VK, (∀ H2, Same H1 H2 → P (f v) H2) → te ((σ.set j none).set j (some v)) H1 P)
    (hd : ∀ D H1, Same H H1 → H D = none → H1 D = some (.lst (xs.map f)) → Q (.ref D) H1) : tLc (fun σ H R => iList K (tVar i) σ H R ∨ iTup K (tVar i) σ H R) (gName j) tYes te [j] σ H Q := by
  obtain ⟨a, rfl, h | h⟩ := hx
  · exact .inl (lcL hv h f few hs hd)
  · exact .inr (lcT hv h f few hs hd)
theorem Sk.tup (h : Sk K H x xs) (q : ∀ (t : Addr) (H' : Hp), Same H H' → SqT K H' t xs → Q (.ref t) H') : rTupOf K [x] H Q := by
  obtain ⟨a, rfl, h | h⟩ := h
  · exact ⟨a, _, rfl, .inl ⟨h, fun l hl => q l _ (same_new hl) (sqT_at upd_same)⟩⟩
  · exact ⟨a, _, rfl, .inr ⟨h, q a _ (Same.refl _) h⟩⟩
end
def few1 (d : PyData) : Prop := ∀ ds, seqD d = some ds → ds.length ≤ 100
def few2 (d : PyData) : Prop := ∀ ds, seqD d = some ds → ds.length ≤ 100 ∧ ∀ e ∈ ds, few1 e
def few3 (d : PyData) : Prop := ∀ ds, seqD d = some ds → ds.length ≤ 100 ∧ ∀ e ∈ ds, few2 e
theorem DvAll.mem {K : PySem.W.Frag} {H : Hp} : ∀ {vs : List V} {ds : List PyData} {v : V}, DvAll K H vs ds → v ∈ vs → ∃ d ∈ ds, Dv K H v d
  | _, _, _, .nil, m => by cases m
  | _, _, _, .cons a b, m => by
    rcases List.mem_cons.mp m with rfl | m
    · exact ⟨_, List.mem_cons_self, a⟩
    · obtain ⟨d, h1, h2⟩ := DvAll.mem b m
      exact ⟨d, List.mem_cons_of_mem _ h1, h2⟩
theorem Dv.whole {K : PySem.W.Frag} {H : Hp} {v lo hi : V} {d : PyData} (h : Dv K H v d) : wholeV v lo hi = wholeD d lo hi := by
  cases h <;> rfl
/-- a function of things that goes by what they are -/
theorem DvAll.all {K : PySem.W.Frag} {H : Hp} {f : V → Bool} {g : PyData → Bool} (e : ∀ v d, Dv K H v d → f v = g d) : ∀ {vs : List V} {ds : List PyData}, DvAll K H vs ds → vs.all f = ds.all g
  | _, _, .nil => rfl
  | _, _, .cons a b => by rw [List.all_cons, List.all_cons, e _ _ a, DvAll.all e b]
def sidesD (d : PyData) : Bool := match seqD d with
  | some [.int p, .int q] => decide ((1 ≤ p ∧ p ≤ 6) ∧ (1 ≤ q ∧ q ≤ 6) ∧ p * q ≤ 12)
  | _ => false
def endsD (l : Int) (d : PyData) : Bool := match seqD d with
  | some ds => decide (0 < ds.length) && ds.all fun e => wholeD e (.int (-l)) (.int l)
  | none => false
def knowsD (d : PyData) : Bool := match seqD d with
  | some ds => decide (ds.length = 2) && ds.all boolD
  | none => false
theorem boolD_iff {K : PySem.W.Frag} {H : Hp} {v : V} {d : PyData} (h : Dv K H v d) : (decide (v = .bl true) || decide (v = .bl false)) = boolD d := by
  cases h with
  | bl b => cases b <;> rfl
  | _ => rfl
theorem wholeD_int {d : PyData} {l h : Int} : wholeD d (.int l) (.int h) = true → ∃ i, d = .int i ∧ l ≤ i ∧ i ≤ h := by
  intro q
  cases d with
  | int i => simp [wholeD, loOk, hiOk] at q; exact ⟨i, rfl, q⟩
  | _ => cases q
/-- how many lines, how long -/
def linesD (d : PyData) : Option (Nat × Nat) := match seqD d with
  | none => none
  | some ds => if ds.all (fun e => (seqD e).isSome) = true then
      match ds.map (fun e => ((seqD e).getD []).length) with
      | [] => none
      | n :: ns => if ns.all (fun m => decide (m = n)) = true then some (ns.length + 1, n) else none
    else none
end Jv

/-! ### comprehensions whose results are data; the lists under way hidden -/
namespace Jv
open PySem PySem.Spec PyProof.Rows L2
def hide (N : List Addr) (H : Hp) : Hp := fun b => if b ∈ N then none else H b
theorem hide_nil {H : Hp} : hide [] H = H := by funext b; simp [hide]
theorem hide_at {N : List Addr} {H : Hp} {b : Addr} {o : HO} (n : b ∉ N) (h : H b = some o) : hide N H b = some o := by unfold hide; rw [if_neg n]; exact h
theorem hide_some {N : List Addr} {H : Hp} {b : Addr} {o : HO} (h : hide N H b = some o) : b ∉ N ∧ H b = some o := by
  unfold hide at h
  by_cases n : b ∈ N
  · rw [if_pos n] at h; cases h
  · rw [if_neg n] at h; exact ⟨n, h⟩
theorem hide_le {N : List Addr} {H : Hp} : Same (hide N H) H := fun _ _ e => (hide_some e).2
theorem hide_same {N : List Addr} {H H' : Hp} (s : Same H H') : Same (hide N H) (hide N H') := fun _ _ e => hide_at (hide_some e).1 (s _ _ (hide_some e).2)
theorem hide_more {N : List Addr} {H H' : Hp} {D : Addr} (s : Same H H') (n : H D = none) : Same (hide N H) (hide (D :: N) H') := fun b o e => by
  obtain ⟨h1, h2⟩ := hide_some e
  refine hide_at (fun m => ?_) (s _ _ h2)
  rcases List.mem_cons.mp m with rfl | m
  · rw [n] at h2; cases h2
  · exact h1 m
theorem hide_less {N : List Addr} {H : Hp} {D : Addr} : Same (hide (D :: N) H) (hide N H) := fun b o e => by
  obtain ⟨h1, h2⟩ := hide_some e
  exact hide_at (fun m => h1 (List.mem_cons_of_mem _ m)) h2
theorem hide_upd {N : List Addr} {H : Hp} {D : Addr} {o : HO} : hide (D :: N) (upd H D o) = hide (D :: N) H := by
  funext b
  unfold hide
  by_cases m : b ∈ D :: N
  · rw [if_pos m, if_pos m]
  · rw [if_neg m, if_neg m]
    exact upd_ne fun e => m (by rw [e]; exact List.mem_cons_self)
def Held (N : List Addr) (H : Hp) : Prop := ∀ b ∈ N, ∃ o, H b = some o
theorem Held.nil {H : Hp} : Held [] H := fun _ h => by cases h
theorem Held.same {N : List Addr} {H H' : Hp} (h : Held N H) (s : Same H H') : Held N H' := fun b m => let ⟨o, e⟩ := h b m; ⟨o, s _ _ e⟩
theorem Held.cons {N : List Addr} {H : Hp} {D : Addr} {o : HO} (h : Held N H) (e : H D = some o) : Held (D :: N) H := fun b m => by
  rcases List.mem_cons.mp m with rfl | m
  · exact ⟨_, e⟩
  · exact h b m
theorem Held.new {N : List Addr} {H : Hp} {t : Addr} (h : Held N H) (n : H t = none) : t ∉ N := fun m => by
  obtain ⟨o, e⟩ := h t m
  rw [n] at e; cases e
section
variable {K : PySem.W.Frag} {σ : L2.St} {H : Hp} {te : TE} {tt : TT} {Q : VK} {xs : List V} {es : List PyData} {j i n : Nat} {x : V} {N : List Addr} {J : It} {G : Hp → Prop} {Y : Nat → Hp → V → Hp → Prop} {F : Nat → V → Prop}
theorem lcD (w : Walk J n G Y) (hG : ∀ H', Same H H' → G H') (hy : ∀ i H x H', i < n → Y i H x H' → H' = H ∧ F i x) (hN : Held N H) (es : List PyData) (hl : es.length = n) (few : n ≤ 1000)
    (hs : ∀ i v e D H1, i < n → F i v → es[i]? = some e → Same H H1 → Held (D :: N) H1 → H D = none → ∀ P : VK, (∀ y H2, Same H1 H2 → Dv K (hide (D :: N) H2) y e → P y H2) → te ((σ.set j none).set j (some v)) H1 P)
    (hd : ∀ D ys H1, Same H H1 → H D = none → H1 D = some (.lst ys) → DvAll K (hide N H1) ys es → DvAll K (hide (D :: N) H1) ys es → Q (.ref D) H1) : ∀ D, H D = none → ∃ W : Nat → Nat → Hp → Prop, (∃ m, W 0 m (upd H D (.lst []))) ∧ ∀ i m H, W i m H →
      (J.stop i H ∧ Q (.ref D) H) ∨ (J.go i H ∧ ∃ Nx : Hp → Prop, (∀ H', Nx H' → ∃ m', m' < m ∧ W (i + 1) m' H') ∧ ∀ x H', J.yld i H x H' → gName j x (wipe σ [j]) H' fun σ2 H2 => wipe σ2 [j] = wipe σ [j] ∧ tYes σ2 H2 fun b H3 =>
        if b = true then te σ2 H3 fun y H4 => ∃ acc, H4 D = some (.lst acc) ∧ acc.length < sizeLine ∧ Nx (upd H4 D (.lst (acc ++ [y]))) else Nx H3) := by
  intro D hD
  refine lc_it w (fun i H1 => Same H H1 ∧ ∃ ys, H1 D = some (.lst ys) ∧ DvAll K (hide (D :: N) H1) ys (es.take i)) ⟨same_new hD, [], upd_same, .nil⟩ (fun i H1 _ h => hG H1 h.1) ?_ ?_
  · rintro i x H1 H2 hi ⟨s1, ys, e1, al⟩ hx
    obtain ⟨e0, hF⟩ := hy i _ _ _ hi hx
    subst e0
    refine ⟨wipe1, ?_⟩
    refine r_yes ?_
    refine r_true (c := true) rfl ?_
    have hie : i < es.length := by omega
    have he := List.getElem?_eq_getElem hie
    refine hs i x _ D _ hi hF he s1 ((hN.same s1).cons e1) hD _ fun y H3 s3 dy => ⟨_, s3 _ _ e1, ?_, ?_, _, upd_same, ?_⟩
    · rw [al.len, List.length_take]; exact small_lt (by omega)
    · intro b o e; exact kpO (s3 _ _ (s1 b o e)) (ne_of_none e hD)
    · rw [hide_upd, take_more he]
      exact DvAll.snoc dy (al.same (hide_same s3))
  · rintro H1 ⟨s1, ys, e1, al⟩
    rw [List.take_of_length_le (by omega)] at al
    exact hd D ys H1 s1 hD e1 (al.same hide_less) al
theorem yat {xs : List V} : ∀ (i : Nat) (H : Hp) (x : V) (H' : Hp), i < xs.length → YAt xs i H x H' → H' = H ∧ xs[i]? = some x := fun _ _ _ _ _ h => h
theorem yfn {f : Nat → V} {n : Nat} : ∀ (i : Nat) (H : Hp) (x : V) (H' : Hp), i < n → YFn f i H x H' → H' = H ∧ x = f i := fun _ _ _ _ _ h => h
/-- over a name that holds a list or a tuple; the results' data by the data's -/
theorem lcS2 (hv : σ[i]? = some (some x)) (hx : Sk K H x xs) (hN : Held N H) (es : List PyData) (hl : es.length = xs.length) (few : xs.length ≤ 1000)
    (hs : ∀ i v e D H1, i < xs.length → xs[i]? = some v → es[i]? = some e → Same H H1 → Held (D :: N) H1 → H D = none → ∀ P : VK, (∀ y H2, Same H1 H2 → Dv K (hide (D :: N) H2) y e → P y H2) → te ((σ.set j none).set j (some v)) H1 P)
    (hd : ∀ D ys H1, Same H H1 → H D = none → H1 D = some (.lst ys) → DvAll K (hide N H1) ys es → DvAll K (hide (D :: N) H1) ys es → Q (.ref D) H1) : tLc (fun σ H R => iList K (tVar i) σ H R ∨ iTup K (tVar i) σ H R) (gName j) tYes te [j] σ H Q := by
  obtain ⟨a, rfl, h | h⟩ := hx
  · exact .inl ⟨_, hv, a, rfl, ⟨xs, h⟩, lcD walk_list (fun H' s => s.seq h) yat hN es hl few hs hd⟩
  · exact .inr ⟨_, hv, a, rfl, ⟨xs, h⟩, lcD walk_tup (fun H' s => Jv.Same.sqT s h) yat hN es hl few hs hd⟩
end
/-- results that are truths -/
theorem dv_bools {K : PySem.W.Frag} {H : Hp} : ∀ {ys : List V} {bs : List Bool}, DvAll K H ys (bs.map PyData.bool) → ys = bs.map V.bl
  | [], [], _ => rfl
  | _, b :: bs, .cons (.bl _) r => by rw [dv_bools r]; rfl
theorem dv_intsV {K : PySem.W.Frag} {H : Hp} : ∀ {ys : List V} {ns : List Int}, DvAll K H ys (ns.map PyData.int) → ys = ns.map V.int
  | [], [], _ => rfl
  | _, b :: bs, .cons (.int _) r => by rw [dv_intsV r]; rfl
end Jv

/-! ### comprehensions of two walks over data -/
namespace Jv
open PySem PySem.Spec PyProof.Rows L2
def rowG (g : PyData → PyData) (r : PyData) : List PyData := ((seqD r).getD []).map g
def upTo (g : PyData → PyData) (ds : List PyData) (m n : Nat) : List PyData := (ds.take m).flatMap (rowG g) ++ (((ds[m]?.map (rowG g)).getD []).take n)
theorem upTo_more {g : PyData → PyData} {ds : List PyData} {m n : Nat} {r d : PyData} {l : List PyData} (hr : ds[m]? = some r) (hl : seqD r = some l) (hd : l[n]? = some d) : upTo g ds m (n + 1) = upTo g ds m n ++ [g d] := by
  unfold upTo
  rw [hr, List.append_assoc]
  congr 1
  show (rowG g r).take (n + 1) = (rowG g r).take n ++ [g d]
  refine take_more ?_
  unfold rowG
  rw [hl]
  show (l.map g)[n]? = _
  rw [List.getElem?_map, hd]; rfl
theorem upTo_next {g : PyData → PyData} {ds : List PyData} {m : Nat} {r : PyData} {l : List PyData} (hr : ds[m]? = some r) (hl : seqD r = some l) : upTo g ds m l.length = upTo g ds (m + 1) 0 := by
  unfold upTo
  rw [hr, take_more hr, List.flatMap_append]
  have : (rowG g r).take l.length = rowG g r := by
    unfold rowG; rw [hl]
    exact List.take_of_length_le (by show (l.map g).length ≤ _; rw [List.length_map]; exact Nat.le_refl _)
  show _ ++ (rowG g r).take l.length = _
  rw [this]
  simp
theorem upTo_end {g : PyData → PyData} {ds : List PyData} : upTo g ds ds.length 0 = ds.flatMap (rowG g) := by
  unfold upTo
  simp
theorem flat_len {f : PyData → List PyData} : ∀ {l : List PyData}, (∀ e ∈ l, (f e).length ≤ 100) → (l.flatMap f).length ≤ l.length * 100
  | [], _ => by simp
  | a :: r, h => by
    have h1 := h a List.mem_cons_self
    have h2 := flat_len (l := r) fun e m => h e (List.mem_cons_of_mem _ m)
    rw [List.flatMap_cons, List.length_append, List.length_cons, Nat.succ_mul]; omega
section
variable {K : PySem.W.Frag} {σ : L2.St} {H : Hp} {te : TE} {Q : VK} {xs : List V} {ds : List PyData} {i a b : Nat} {x : V} {N : List Addr}
theorem lc2W {J : It} {G : Hp → Prop} (w : Walk J xs.length G (YAt xs)) (hG : ∀ H', Same H H' → G H') (al : DvAll K H xs ds) (hN : Held N H) (g : PyData → PyData)
    (hq : ∀ e ∈ ds, ∃ l, seqD e = some l ∧ l.length ≤ 100) (few : ds.length ≤ 100)
    (w1 : ∀ v, wipe ((wipe σ [a, b]).set a (some v)) [a, b] = wipe σ [a, b])
    (w2 : ∀ v u, wipe ((wipe ((wipe σ [a, b]).set a (some v)) [b]).set b (some u)) [b] = wipe ((wipe σ [a, b]).set a (some v)) [b])
    (ha : ∀ v, ((wipe σ [a, b]).set a (some v))[a]? = some (some v))
    (hs : ∀ v u d D H1, Dv K H1 u d → (∃ e ∈ ds, ∃ l, seqD e = some l ∧ d ∈ l) → Same H H1 → Held (D :: N) H1 → H D = none → ∀ P : VK, (∀ y H2, Same H1 H2 → Dv K (hide (D :: N) H2) y (g d) → P y H2) → te ((wipe ((wipe σ [a, b]).set a (some v)) [b]).set b (some u)) H1 P)
    (hd : ∀ D ys H1, Same H H1 → H D = none → H1 D = some (.lst ys) → DvAll K (hide N H1) ys (ds.flatMap (rowG g)) → Q (.ref D) H1) :
    ∀ D, H D = none → ∃ W : Nat → Nat → Hp → Prop, (∃ m, W 0 m (upd H D (.lst []))) ∧ ∀ i m H, W i m H →
      (J.stop i H ∧ Q (.ref D) H) ∨ (J.go i H ∧ ∃ Nx : Hp → Prop, (∀ H', Nx H' → ∃ m', m' < m ∧ W (i + 1) m' H') ∧ ∀ x H', J.yld i H x H' → gName a x (wipe σ [a, b]) H' fun σ2 H2 => wipe σ2 [a, b] = wipe σ [a, b] ∧ tYes σ2 H2 fun c H3 =>
        if c = true then (iList K (tVar a) σ2 H3 fun J1 H4 => ∃ W1 : Nat → Nat → Hp → Prop, (∃ m, W1 0 m H4) ∧ ∀ j k H, W1 j k H →
          (J1.stop j H ∧ Nx H) ∨ (J1.go j H ∧ ∃ Nx1 : Hp → Prop, (∀ H', Nx1 H' → ∃ k', k' < k ∧ W1 (j + 1) k' H') ∧ ∀ x H', J1.yld j H x H' → gName b x (wipe σ2 [b]) H' fun σ3 H5 => wipe σ3 [b] = wipe σ2 [b] ∧ tYes σ3 H5 fun c H6 =>
            if c = true then te σ3 H6 fun y H7 => ∃ acc, H7 D = some (.lst acc) ∧ acc.length < sizeLine ∧ Nx1 (upd H7 D (.lst (acc ++ [y]))) else Nx1 H6)) ∨ (iTup K (tVar a) σ2 H3 fun J1 H4 => ∃ W1 : Nat → Nat → Hp → Prop, (∃ m, W1 0 m H4) ∧ ∀ j k H, W1 j k H →
          (J1.stop j H ∧ Nx H) ∨ (J1.go j H ∧ ∃ Nx1 : Hp → Prop, (∀ H', Nx1 H' → ∃ k', k' < k ∧ W1 (j + 1) k' H') ∧ ∀ x H', J1.yld j H x H' → gName b x (wipe σ2 [b]) H' fun σ3 H5 => wipe σ3 [b] = wipe σ2 [b] ∧ tYes σ3 H5 fun c H6 =>
            if c = true then te σ3 H6 fun y H7 => ∃ acc, H7 D = some (.lst acc) ∧ acc.length < sizeLine ∧ Nx1 (upd H7 D (.lst (acc ++ [y]))) else Nx1 H6))
        else Nx H3) := by
  intro D hD
  have hlen := al.len
  have bound : ∀ m n, (upTo g ds m n).length < 20000 := by
    intro m n
    unfold upTo
    rw [List.length_append, List.length_take]
    have row : ∀ e ∈ ds, (rowG g e).length ≤ 100 := fun e he => by
      obtain ⟨l, h1, h2⟩ := hq e he
      unfold rowG; rw [h1]; show (l.map g).length ≤ 100; rw [List.length_map]; exact h2
    have h1 := flat_len (f := rowG g) (l := ds.take m) fun e he => row e (List.mem_of_mem_take he)
    have h2 : (ds.take m).length ≤ 100 := by rw [List.length_take]; omega
    have h3 : ((ds[m]?.map (rowG g)).getD []).length ≤ 100 := by
      cases e : ds[m]? with
      | none => simp
      | some r => exact row r (List.mem_of_getElem? e)
    omega
  refine ⟨fun m k H1 => k = xs.length - m ∧ m ≤ xs.length ∧ Same H H1 ∧ ∃ ys, H1 D = some (.lst ys) ∧ DvAll K (hide (D :: N) H1) ys (upTo g ds m 0), ⟨xs.length, by omega, by omega, same_new hD, [], upd_same, by unfold upTo; simp; exact .nil⟩, ?_⟩
  rintro m k H1 ⟨rfl, hm, s1, ys, e1, dv⟩
  by_cases lt : m < xs.length
  · refine .inr ⟨w.goes m H1 lt (hG _ s1), fun H' => Same H H' ∧ ∃ ys, H' D = some (.lst ys) ∧ DvAll K (hide (D :: N) H') ys (upTo g ds (m + 1) 0), fun H' h => ⟨xs.length - (m + 1), by omega, rfl, lt, h⟩, ?_⟩
    rintro v H2 hv0
    obtain ⟨e2, hv⟩ := w.yields m H1 v H2 lt (hG _ s1) hv0
    subst e2
    obtain ⟨r, hr, dr⟩ := al.at hv
    have hrm := List.mem_of_getElem? hr
    obtain ⟨l, hl, fl⟩ := hq r hrm
    refine ⟨w1 _, r_yes (r_true (c := true) rfl ?_)⟩
    obtain ⟨us, ⟨p, ep, hp⟩, du⟩ := dr.sk hl
    subst ep
    have hul := du.len
    have core : ∀ (J1 : It) (G1 : Hp → Prop), Walk J1 us.length G1 (YAt us) → (∀ H', Same H H' → G1 H') → ∃ W1 : Nat → Nat → Hp → Prop, (∃ m, W1 0 m H2) ∧ ∀ j k H5, W1 j k H5 →
        (J1.stop j H5 ∧ (Same H H5 ∧ ∃ ys, H5 D = some (.lst ys) ∧ DvAll K (hide (D :: N) H5) ys (upTo g ds (m + 1) 0))) ∨ (J1.go j H5 ∧ ∃ Nx1 : Hp → Prop, (∀ H', Nx1 H' → ∃ k', k' < k ∧ W1 (j + 1) k' H') ∧ ∀ x H', J1.yld j H5 x H' → gName b x (wipe ((wipe σ [a, b]).set a (some (.ref p))) [b]) H' fun σ3 H5 => wipe σ3 [b] = wipe ((wipe σ [a, b]).set a (some (.ref p))) [b] ∧ tYes σ3 H5 fun c H6 =>
          if c = true then te σ3 H6 fun y H7 => ∃ acc, H7 D = some (.lst acc) ∧ acc.length < sizeLine ∧ Nx1 (upd H7 D (.lst (acc ++ [y]))) else Nx1 H6) := by
      intro J1 G1 wk hG1
      refine ⟨fun j k H5 => k = us.length - j ∧ j ≤ us.length ∧ Same H H5 ∧ ∃ ys, H5 D = some (.lst ys) ∧ DvAll K (hide (D :: N) H5) ys (upTo g ds m j), ⟨us.length, by omega, by omega, s1, ys, e1, dv⟩, ?_⟩
      rintro j k H5 ⟨rfl, hj, s5, zs, e5, dz⟩
      by_cases lt2 : j < us.length
      · refine .inr ⟨wk.goes j H5 lt2 (hG1 _ s5), fun H' => Same H H' ∧ ∃ ys, H' D = some (.lst ys) ∧ DvAll K (hide (D :: N) H') ys (upTo g ds m (j + 1)), fun H' h => ⟨us.length - (j + 1), by omega, rfl, lt2, h⟩, ?_⟩
        rintro u H6 hu0
        obtain ⟨e6, hu⟩ := wk.yields j H5 u H6 lt2 (hG1 _ s5) hu0
        subst e6
        obtain ⟨d, hd1, dd⟩ := du.at hu
        refine ⟨w2 _ _, r_yes (r_true (c := true) rfl ?_)⟩
        refine hs _ _ d D _ (dd.same s5) ⟨r, hrm, l, hl, List.mem_of_getElem? hd1⟩ s5 ((hN.same s5).cons e5) hD _ fun y H7 s7 dy => ⟨_, s7 _ _ e5, ?_, ?_, _, upd_same, ?_⟩
        · rw [dz.len]
          exact Nat.lt_of_lt_of_le (bound m j) (by decide)
        · intro c o hc; exact kpO (s7 _ _ (s5 c o hc)) (ne_of_none hc hD)
        · rw [hide_upd, upTo_more hr hl hd1]
          exact DvAll.snoc dy (dz.same (hide_same s7))
      · have ej : j = l.length := by omega
        subst ej
        refine .inl ⟨by rw [← hul]; exact wk.stops H5 (hG1 _ s5), s5, zs, e5, ?_⟩
        rw [← upTo_next hr hl]; exact dz
    rcases hp with hp | hp
    · exact .inl ⟨_, ha _, p, rfl, ⟨us, s1.seq hp⟩, core _ _ walk_list fun H' s => s.seq hp⟩
    · exact .inr ⟨_, ha _, p, rfl, ⟨us, Jv.Same.sqT s1 hp⟩, core _ _ walk_tup fun H' s => Jv.Same.sqT s hp⟩
  · have em : m = xs.length := by omega
    subst em
    refine .inl ⟨w.stops H1 (hG _ s1), hd D ys H1 s1 hD e1 ?_⟩
    rw [hlen, upTo_end] at dv
    exact dv.same hide_less
theorem lc2D (hv : σ[i]? = some (some x)) (hx : Sk K H x xs) (al : DvAll K H xs ds) (hN : Held N H) (g : PyData → PyData)
    (hq : ∀ e ∈ ds, ∃ l, seqD e = some l ∧ l.length ≤ 100) (few : ds.length ≤ 100)
    (w1 : ∀ v, wipe ((wipe σ [a, b]).set a (some v)) [a, b] = wipe σ [a, b])
    (w2 : ∀ v u, wipe ((wipe ((wipe σ [a, b]).set a (some v)) [b]).set b (some u)) [b] = wipe ((wipe σ [a, b]).set a (some v)) [b])
    (ha : ∀ v, ((wipe σ [a, b]).set a (some v))[a]? = some (some v))
    (hs : ∀ v u d D H1, Dv K H1 u d → (∃ e ∈ ds, ∃ l, seqD e = some l ∧ d ∈ l) → Same H H1 → Held (D :: N) H1 → H D = none → ∀ P : VK, (∀ y H2, Same H1 H2 → Dv K (hide (D :: N) H2) y (g d) → P y H2) → te ((wipe ((wipe σ [a, b]).set a (some v)) [b]).set b (some u)) H1 P)
    (hd : ∀ D ys H1, Same H H1 → H D = none → H1 D = some (.lst ys) → DvAll K (hide N H1) ys (ds.flatMap (rowG g)) → Q (.ref D) H1) :
    tLc2 (fun σ H R => iList K (tVar i) σ H R ∨ iTup K (tVar i) σ H R) (gName a) tYes (fun σ H R => iList K (tVar a) σ H R ∨ iTup K (tVar a) σ H R) (gName b) tYes te [a, b] [b] σ H Q := by
  obtain ⟨p, rfl, h | h⟩ := hx
  · exact .inl ⟨_, hv, p, rfl, ⟨xs, h⟩, lc2W walk_list (fun H' s => s.seq h) al hN g hq few w1 w2 ha hs hd⟩
  · exact .inr ⟨_, hv, p, rfl, ⟨xs, h⟩, lc2W walk_tup (fun H' s => Jv.Same.sqT s h) al hN g hq few w1 w2 ha hs hd⟩
end
end Jv

/-! ### data beside an object's change; readings of fields -/
namespace Jv
open PySem PySem.Spec PyProof.Rows L2
section
variable {K : PySem.W.Frag} {H : Hp} {a C dx : Addr} {fs : List (Str × V)} {o : HO}
theorem SqT.ins (ha : H a = some (.ins C dx fs)) {b : Addr} {xs : List V} (h : SqT K H b xs) : SqT K (upd H a o) b xs := by
  rcases h with (h | ⟨u, h⟩) | h
  · exact .inl (.inl (kpO h fun e => by rw [e, ha] at h; cases h))
  · exact .inl (.inr ⟨u, kpO h fun e => by rw [e, ha] at h; cases h⟩)
  · exact .inr h
mutual
theorem Dv.ins (ha : H a = some (.ins C dx fs)) : ∀ {v : V} {d : PyData}, Dv K H v d → Dv K (upd H a o) v d
  | _, _, .non => .non
  | _, _, .bl b => .bl b
  | _, _, .int i => .int i
  | _, _, .str x => .str x
  | _, _, .lst h q => .lst (kpO h fun e => by rw [e, ha] at h; cases h) (DvAll.ins ha q)
  | _, _, .tup h q => .tup (Jv.SqT.ins ha h) (DvAll.ins ha q)
theorem DvAll.ins (ha : H a = some (.ins C dx fs)) : ∀ {vs : List V} {ds : List PyData}, DvAll K H vs ds → DvAll K (upd H a o) vs ds
  | _, _, .nil => .nil
  | _, _, .cons x y => .cons (Dv.ins ha x) (DvAll.ins ha y)
end
theorem r_sfld {ta tv : TE} {f : Str} {D : Ends} {σ : L2.St} (h : tv σ H fun y H1 => ta σ H1 fun x H2 => ∃ a C dx fs, x = .ref a ∧ H2 a = some (.ins C dx fs) ∧ Cls K C ∧ NoAttr K C f ∧ fs.length < 1000 ∧
  D.nx σ (upd H2 a (.ins C dx (putF f y fs)))) : sFld K ta tv f D σ H := h
theorem r_fld {ta : TE} {f : Str} {σ : L2.St} {Q : VK} (h : ta σ H fun x H1 => ∃ a C dx fs v, x = .ref a ∧ H1 a = some (.ins C dx fs) ∧ Cls K C ∧ NoAttr K C f ∧ fs.lookup f = some v ∧ Q v H1) : tFld K ta f σ H Q := h
end
/-- a new tuple of data -/
theorem dv_new {K : PySem.W.Frag} {H : Hp} {N : List Addr} {t : Addr} {xs : List V} {ds : List PyData} (n : H t = none) (hN : Held N H) (h : DvAll K (hide N H) xs ds) : Dv K (hide N (upd H t (.tup xs))) (.ref t) (.tuple ds) :=
  .tup (sqT_at (hide_at (hN.new n) upd_same)) (h.same (hide_same (same_new n)))
theorem dv_newL {K : PySem.W.Frag} {H : Hp} {N : List Addr} {t : Addr} {xs : List V} {ds : List PyData} (n : H t = none) (hN : Held N H) (h : DvAll K (hide N H) xs ds) : Dv K (hide N (upd H t (.lst xs))) (.ref t) (.list ds) :=
  .lst (hide_at (hN.new n) upd_same) (h.same (hide_same (same_new n)))
end Jv

/-! ### comprehensions over what an expression gives; filters of numbers -/
namespace Jv
open PySem PySem.Spec PyProof.Rows L2
section
variable {K : PySem.W.Frag} {σ : L2.St} {H : Hp} {te te0 : TE} {tt : TT} {Q : VK} {xs : List V} {es : List PyData} {j i n : Nat} {x : V} {N : List Addr}
theorem lcS3 (hit : ∀ P : VK, P x H → te0 σ H P) (hx : Sk K H x xs) (hN : Held N H) (es : List PyData) (hl : es.length = xs.length) (few : xs.length ≤ 1000)
    (hs : ∀ i v e D H1, i < xs.length → xs[i]? = some v → es[i]? = some e → Same H H1 → Held (D :: N) H1 → H D = none → ∀ P : VK, (∀ y H2, Same H1 H2 → Dv K (hide (D :: N) H2) y e → P y H2) → te ((σ.set j none).set j (some v)) H1 P)
    (hd : ∀ D ys H1, Same H H1 → H D = none → H1 D = some (.lst ys) → DvAll K (hide N H1) ys es → DvAll K (hide (D :: N) H1) ys es → Q (.ref D) H1) : tLc (fun σ H R => iList K te0 σ H R ∨ iTup K te0 σ H R) (gName j) tYes te [j] σ H Q := by
  obtain ⟨a, rfl, h | h⟩ := hx
  · exact .inl (hit _ ⟨a, rfl, ⟨xs, h⟩, lcD walk_list (fun H' s => s.seq h) yat hN es hl few hs hd⟩)
  · exact .inr (hit _ ⟨a, rfl, ⟨xs, h⟩, lcD walk_tup (fun H' s => Jv.Same.sqT s h) yat hN es hl few hs hd⟩)
theorem filter_more {f : Int → Bool} {ns : List Int} {i : Nat} {z : Int} (h : ns[i]? = some z) : (ns.take (i + 1)).filter f = (ns.take i).filter f ++ if f z = true then [z] else [] := by
  rw [take_more h, List.filter_append]
  congr 1
  by_cases c : f z = true
  · simp [c]
  · simp [c]
/-- the numbers of a list or a tuple at which a test holds -/
theorem lcFW {J : It} {G : Hp → Prop} {ns : List Int} (w : Walk J (ns.map V.int).length G (YAt (ns.map V.int))) (hG : ∀ H', Same H H' → G H') (f : Int → Bool) (few : ns.length ≤ 1000)
    (ht : ∀ z H1, z ∈ ns → Same H H1 → ∀ R : Bool → Hp → Prop, (∀ H2, Same H1 H2 → R (f z) H2) → tt ((σ.set j none).set j (some (.int z))) H1 R)
    (hs : ∀ z H1, ∀ P : VK, P (.int z) H1 → te ((σ.set j none).set j (some (.int z))) H1 P)
    (hd : ∀ D H1, Same H H1 → H D = none → H1 D = some (.lst ((ns.filter f).map V.int)) → Q (.ref D) H1) : ∀ D, H D = none → ∃ W : Nat → Nat → Hp → Prop, (∃ m, W 0 m (upd H D (.lst []))) ∧ ∀ i m H, W i m H →
      (J.stop i H ∧ Q (.ref D) H) ∨ (J.go i H ∧ ∃ Nx : Hp → Prop, (∀ H', Nx H' → ∃ m', m' < m ∧ W (i + 1) m' H') ∧ ∀ x H', J.yld i H x H' → gName j x (wipe σ [j]) H' fun σ2 H2 => wipe σ2 [j] = wipe σ [j] ∧ tt σ2 H2 fun b H3 =>
        if b = true then te σ2 H3 fun y H4 => ∃ acc, H4 D = some (.lst acc) ∧ acc.length < sizeLine ∧ Nx (upd H4 D (.lst (acc ++ [y]))) else Nx H3) := by
  intro D hD
  refine lc_it w (fun i H1 => Same H H1 ∧ H1 D = some (.lst (((ns.take i).filter f).map V.int))) ⟨same_new hD, upd_same⟩ (fun i H1 _ h => hG H1 h.1) ?_ ?_
  · rintro i x H1 H2 hi ⟨s1, e1⟩ ⟨e0, hx⟩
    subst e0
    obtain ⟨z, hz, rfl⟩ := map_at hx
    refine ⟨wipe1, ht z _ (List.mem_of_getElem? hz) s1 _ fun H3 s3 => ?_⟩
    have e3 := s3 _ _ e1
    by_cases c : f z = true
    · rw [if_pos c]
      refine hs z H3 _ ⟨_, e3, ?_, fun b o e => kpO (s3 _ _ (s1 b o e)) (ne_of_none e hD), ?_⟩
      · rw [List.length_map]
        refine small_lt (Nat.lt_of_le_of_lt (List.length_filter_le _ _) ?_)
        rw [List.length_map] at hi
        rw [List.length_take]; omega
      · rw [upd_same, filter_more hz, if_pos c, List.map_append]; rfl
    · rw [if_neg c]
      refine ⟨s1.trans s3, ?_⟩
      rw [filter_more hz, if_neg c, List.append_nil]; exact e3
  · rintro H1 ⟨s1, e1⟩
    rw [List.length_map, List.take_length] at e1
    exact hd D H1 s1 hD e1
theorem lcF2 {ns : List Int} (hv : σ[i]? = some (some x)) (hx : Sk K H x (ns.map V.int)) (f : Int → Bool) (few : ns.length ≤ 1000)
    (ht : ∀ z H1, z ∈ ns → Same H H1 → ∀ R : Bool → Hp → Prop, (∀ H2, Same H1 H2 → R (f z) H2) → tt ((σ.set j none).set j (some (.int z))) H1 R)
    (hs : ∀ z H1, ∀ P : VK, P (.int z) H1 → te ((σ.set j none).set j (some (.int z))) H1 P)
    (hd : ∀ D H1, Same H H1 → H D = none → H1 D = some (.lst ((ns.filter f).map V.int)) → Q (.ref D) H1) : tLc (fun σ H R => iList K (tVar i) σ H R ∨ iTup K (tVar i) σ H R) (gName j) tt te [j] σ H Q := by
  obtain ⟨a, rfl, h | h⟩ := hx
  · exact .inl ⟨_, hv, a, rfl, ⟨_, h⟩, lcFW walk_list (fun H' s => s.seq h) f few ht hs hd⟩
  · exact .inr ⟨_, hv, a, rfl, ⟨_, h⟩, lcFW walk_tup (fun H' s => Jv.Same.sqT s h) f few ht hs hd⟩
end
end Jv

/-! ### comprehensions whose results are lists of the program's own -/
namespace Jv
open PySem PySem.Spec PyProof.Rows L2
section
variable {K : PySem.W.Frag} {σ : L2.St} {H : Hp} {te te0 : TE} {tt : TT} {Q : VK} {xs : List V} {j n : Nat} {x : V} {J : It} {G : Hp → Prop} {Y : Nat → Hp → V → Hp → Prop} {Fx : Nat → V → Prop} {F : Nat → List V}
theorem lcOwnD (w : Walk J n G Y) (hG : ∀ H', Same H H' → G H') (hy : ∀ i H x H', i < n → Y i H x H' → H' = H ∧ Fx i x) (F : Nat → List V) (few : n ≤ 1000)
    (hs : ∀ i v D H1, i < n → Fx i v → Same H H1 → H D = none → ∀ P : VK, (∀ t H2, H1 t = none → Same H1 H2 → H2 t = some (.lst (F i)) → P (.ref t) H2) → te ((σ.set j none).set j (some v)) H1 P)
    (hd : ∀ D (As : List Addr) H1, Same H H1 → H D = none → As.length = n → As.Nodup → D ∉ As → (∀ b ∈ As, H b = none) → H1 D = some (.lst (As.map V.ref)) → (∀ (k : Nat) b, As[k]? = some b → H1 b = some (.lst (F k))) → Q (.ref D) H1) : ∀ D, H D = none → ∃ W : Nat → Nat → Hp → Prop, (∃ m, W 0 m (upd H D (.lst []))) ∧ ∀ i m H, W i m H →
      (J.stop i H ∧ Q (.ref D) H) ∨ (J.go i H ∧ ∃ Nx : Hp → Prop, (∀ H', Nx H' → ∃ m', m' < m ∧ W (i + 1) m' H') ∧ ∀ x H', J.yld i H x H' → gName j x (wipe σ [j]) H' fun σ2 H2 => wipe σ2 [j] = wipe σ [j] ∧ tYes σ2 H2 fun b H3 =>
        if b = true then te σ2 H3 fun y H4 => ∃ acc, H4 D = some (.lst acc) ∧ acc.length < sizeLine ∧ Nx (upd H4 D (.lst (acc ++ [y]))) else Nx H3) := by
  intro D hD
  refine lc_it w (fun i H1 => Same H H1 ∧ ∃ As : List Addr, As.length = i ∧ As.Nodup ∧ D ∉ As ∧ (∀ b ∈ As, H b = none) ∧ H1 D = some (.lst (As.map V.ref)) ∧ ∀ (k : Nat) b, As[k]? = some b → H1 b = some (.lst (F k)))
    ⟨same_new hD, [], rfl, List.nodup_nil, List.not_mem_nil, fun b m => (by cases m), upd_same, fun k b e => (by simp at e)⟩ (fun i H1 _ h => hG H1 h.1) ?_ ?_
  · rintro i x H1 H2 hi ⟨s1, As, e0, nd, nD, hn, e1, al⟩ hx
    obtain ⟨e2, hF⟩ := hy i _ _ _ hi hx
    subst e2
    refine ⟨wipe1, ?_⟩
    refine r_yes ?_
    refine r_true (c := true) rfl ?_
    refine hs i x D _ hi hF s1 hD _ fun t H3 ht s3 et => ?_
    have htA : t ∉ As := fun m => by
      obtain ⟨k, hk, e⟩ := List.getElem_of_mem m
      have := al k t (by rw [List.getElem?_eq_getElem hk, e])
      rw [ht] at this; cases this
    have htD : t ≠ D := fun e => by rw [e, e1] at ht; cases ht
    have htH : H t = none := s1.free ht
    refine ⟨_, s3 _ _ e1, ?_, fun b o e => kpO (s3 _ _ (s1 b o e)) (ne_of_none e hD), As ++ [t], by rw [List.length_append, e0]; rfl, ?_, ?_, ?_, by rw [upd_same, List.map_append]; rfl, ?_⟩
    · rw [List.length_map, e0]; exact small_lt (by omega)
    · refine List.nodup_append.mpr ⟨nd, by simp, fun a ha b hb => ?_⟩
      rw [List.mem_singleton.mp hb]
      exact fun e => htA (e ▸ ha)
    · intro m
      rcases List.mem_append.mp m with m | m
      · exact nD m
      · exact htD (List.mem_singleton.mp m).symm
    · intro b m
      rcases List.mem_append.mp m with m | m
      · exact hn b m
      · rw [List.mem_singleton.mp m]; exact htH
    · intro k b e
      have nb : b ≠ D := fun eb => by
        rw [eb] at e
        rcases List.mem_append.mp (List.mem_of_getElem? e) with m | m
        · exact nD m
        · exact htD (List.mem_singleton.mp m).symm
      rw [upd_ne nb]
      by_cases hk : k < As.length
      · rw [List.getElem?_append_left hk] at e
        exact s3 _ _ (al k b e)
      · have h2 := (List.getElem?_eq_some_iff.mp e).1
        rw [List.length_append] at h2
        have h3 : k = As.length := by simp at h2; omega
        subst h3
        rw [List.getElem?_append_right (Nat.le_refl _), Nat.sub_self] at e
        cases e
        rw [e0]; exact et
  · rintro H1 ⟨s1, As, e0, nd, nD, hn, e1, al⟩
    exact hd D As H1 s1 hD e0 nd nD hn e1 al
/-- over what an expression gives -/
theorem lcOwn (hit : ∀ P : VK, P x H → te0 σ H P) (hx : Sk K H x xs) (F : Nat → List V) (few : xs.length ≤ 1000)
    (hs : ∀ i v D H1, i < xs.length → xs[i]? = some v → Same H H1 → H D = none → ∀ P : VK, (∀ t H2, H1 t = none → Same H1 H2 → H2 t = some (.lst (F i)) → P (.ref t) H2) → te ((σ.set j none).set j (some v)) H1 P)
    (hd : ∀ D (As : List Addr) H1, Same H H1 → H D = none → As.length = xs.length → As.Nodup → D ∉ As → (∀ b ∈ As, H b = none) → H1 D = some (.lst (As.map V.ref)) → (∀ (k : Nat) b, As[k]? = some b → H1 b = some (.lst (F k))) → Q (.ref D) H1) : tLc (fun σ H R => iList K te0 σ H R ∨ iTup K te0 σ H R) (gName j) tYes te [j] σ H Q := by
  obtain ⟨a, rfl, h | h⟩ := hx
  · exact .inl (hit _ ⟨a, rfl, ⟨xs, h⟩, lcOwnD walk_list (fun H' s => s.seq h) yat F few hs hd⟩)
  · exact .inr (hit _ ⟨a, rfl, ⟨xs, h⟩, lcOwnD walk_tup (fun H' s => Jv.Same.sqT s h) yat F few hs hd⟩)
theorem lcOwn2 {i : Nat} (hv : σ[i]? = some (some x)) (hx : Sk K H x xs) (F : Nat → List V) (few : xs.length ≤ 1000)
    (hs : ∀ i v D H1, i < xs.length → xs[i]? = some v → Same H H1 → H D = none → ∀ P : VK, (∀ t H2, H1 t = none → Same H1 H2 → H2 t = some (.lst (F i)) → P (.ref t) H2) → te ((σ.set j none).set j (some v)) H1 P)
    (hd : ∀ D (As : List Addr) H1, Same H H1 → H D = none → As.length = xs.length → As.Nodup → D ∉ As → (∀ b ∈ As, H b = none) → H1 D = some (.lst (As.map V.ref)) → (∀ (k : Nat) b, As[k]? = some b → H1 b = some (.lst (F k))) → Q (.ref D) H1) : tLc (fun σ H R => iList K (tVar i) σ H R ∨ iTup K (tVar i) σ H R) (gName j) tYes te [j] σ H Q :=
  lcOwn (fun P hP => ⟨_, hv, hP⟩) hx F few hs hd
end
/-- data, item by item -/
theorem dvAll_mk {K : PySem.W.Frag} {H : Hp} : ∀ {vs : List V} {ds : List PyData}, vs.length = ds.length → (∀ (i : Nat) v d, vs[i]? = some v → ds[i]? = some d → Dv K H v d) → DvAll K H vs ds
  | [], [], _, _ => .nil
  | v :: vs, d :: ds, hl, h => .cons (h 0 v d rfl rfl) (dvAll_mk (by simpa using hl) fun i v d h1 h2 => h (i + 1) v d h1 h2)
/-- what each item of a row of rows holds -/
theorem rows_of {K : PySem.W.Frag} {H : Hp} {vs : List V} {ds : List PyData} (h : DvAll K H vs ds) (hs : ∀ d ∈ ds, (seqD d).isSome = true) : ∃ F : Nat → List V, ∀ (i : Nat) v d, vs[i]? = some v → ds[i]? = some d → Sk K H v (F i) ∧ ∃ es, seqD d = some es ∧ DvAll K H (F i) es := by
  have h1 : ∀ i : Nat, ∃ X : List V, ∀ v d, vs[i]? = some v → ds[i]? = some d → Sk K H v X ∧ ∃ es, seqD d = some es ∧ DvAll K H X es := fun i => by
    cases e : vs[i]? with
    | none => exact ⟨[], fun v d h _ => by cases h⟩
    | some v =>
      obtain ⟨d, e2, hd⟩ := h.at e
      obtain ⟨es, e3⟩ := Option.isSome_iff_exists.mp (hs d (List.mem_of_getElem? e2))
      obtain ⟨X, k1, k2⟩ := hd.sk e3
      refine ⟨X, fun v' d' h1 h2 => ?_⟩
      cases h1
      rw [e2] at h2; cases h2
      exact ⟨k1, es, e3, k2⟩
  exact ⟨fun i => Classical.choose (h1 i), fun i => Classical.choose_spec (h1 i)⟩
end Jv

/-! ### several except clauses, some with a name -/
namespace Jv
open PySem PySem.Spec PyProof.Rows L2
/-- a suite with the exception's name at slot i -/
def sNamed (i : Nat) (ts : Addr → Value → Option Addr → TS) : Addr → Value → Option Addr → TS := fun e k d D τ H =>
  ts e k d { nx := fun ρ G => D.nx (ρ.set i none) G, rt := D.rt, bk := fun ρ G => D.bk (ρ.set i none) G, ct := fun ρ G => D.ct (ρ.set i none) G } (τ.set i (some (.ref e))) H
inductive Cls2 (X : Cx) : List ExceptHandler → List (Value × (Addr → Value → Option Addr → TS)) → Prop
  | nil : Cls2 X [] []
  | bare {nm : Str} {k : Value} {ts : Addr → Value → Option Addr → TS} {st : Stmt} {sts : List Stmt} {p1 p2 : Pos} {hl : List ExceptHandler} {wl : List (Value × (Addr → Value → Option Addr → TS))} (hk : Names X nm k)
      (su : ∀ (e : Addr) (ob : Obj) (kd : Value) (d : Option Addr) (pq : List (Addr × Obj)), Zc kd d ob → (∃ fs, ob.data = .fields fs) → PSs (X.suite e ((e, ob) :: pq)) (st :: sts) (ts e kd d)) (more : Cls2 X hl wl) :
      Cls2 X (.ExceptHandler (some (.Name nm p1)) none (st :: sts) p2 :: hl) ((k, ts) :: wl)
  | named {nm n : Str} {i : Nat} {k : Value} {ts : Addr → Value → Option Addr → TS} {st : Stmt} {sts : List Stmt} {p1 p2 : Pos} {hl : List ExceptHandler} {wl : List (Value × (Addr → Value → Option Addr → TS))} (nd : X.N.Nodup) (ix : X.N[i]? = some n) (lc : X.env.kindOf n = some .local) (hk : Names X nm k)
      (su : ∀ (e : Addr) (ob : Obj) (kd : Value) (d : Option Addr) (pq : List (Addr × Obj)), Zc kd d ob → (∃ fs, ob.data = .fields fs) → PSs (X.suite e ((e, ob) :: pq)) (st :: sts) (ts e kd d)) (more : Cls2 X hl wl) :
      Cls2 X (.ExceptHandler (some (.Name nm p1)) (some n) (st :: sts) p2 :: hl) ((k, sNamed i ts) :: wl)
section
variable {X : Cx} {body : List Stmt} {h1 : ExceptHandler} {hl : List ExceptHandler} {wl : List (Value × (Addr → Value → Option Addr → TS))} {pos : Pos} {tb : WX → TS} {Wo : WX}
theorem ps_tryMix (hst : X.stack = X.env :: X.outer) (hfr0 : X.env.frame = some X.env.locals) (tk : Takes X Wo) (hh : Cls2 X (h1 :: hl) wl)
    (hb : ∀ (W : WX) (pq : List (Addr × Obj)) (xe : Value → Shared → Prop), Takes (X.tr pq xe) W → PassesOwn (model X.prog X.w) X.A X.env xe → PSs (X.tr pq xe) body (tb W)) :
    PS X (.Try body (h1 :: hl) [] [] pos) (fun D τ H => tb (wMany X.K Wo D wl) D τ H) := by
  refine ⟨fun pins s τ H D I wish => ?_⟩
  have iok := I.ok
  have afr : X.A.frames = some (X.env :: X.outer) := by rw [iok.frames, hst]
  refine wpAny_Try_except ?_
  refine wpAny_mono ((hb (wMany X.K Wo D wl) (X.pn ++ pins) (fun u r1 => wpAny (model X.prog X.w) X.A (noteFrame u X.env) (fun _ r2 => wpAny (model X.prog X.w) X.A (setFlight u none) (fun _ r3 =>
    wpAny (model X.prog X.w) X.A (handleBy u X.env (h1 :: hl)) (SP X pins D) X.xe r3) X.xe r2) X.xe r1) (fun u t xx => ?_) PassesOwn.looking).run [] s τ H D (I.toTry _) wish) (fun f t hsp => ?_) (fun u t he => he)
  · obtain ⟨e, B, sI, pq, ρ, G, kd, d, rfl, J0, nb, up, sky0, ne, os, ag, w⟩ := xx
    have J : Inv X pins ρ G sI := J0.ofTry iok
    have sky : Sky B (X.env :: X.outer) e (Zc kd d) X.env.locals t.heap := by rw [← hst]; exact sky0
    show wpAny (model X.prog X.w) X.A (noteFrame (.ref e) X.env) _ _ _
    refine Sky.land Zc.steady afr hfr0 sky fun g3 fl3 up3 => ?_
    have J3 : Inv X pins ρ G { t with heap := g3 } := J.landed nb fl3.1 (up.trans up3) os ag
    obtain ⟨ob3, fs3, at3, z3, dt3⟩ := fl3.there
    have notIn : e ∉ frs (X.env :: X.outer) := fun m => by
      obtain ⟨_, ob, at', hn⟩ := fl3.2.2.1.mem m
      rw [at3] at at'; cases at'
      exact hn _ dt3
    have nLoc : e ≠ X.env.locals := fun z => notIn (List.mem_filterMap.mpr ⟨X.env, List.mem_cons_self, by rw [hfr0, z]⟩)
    have nFs : e ∉ X.fs := fun m => by
      obtain ⟨v, hv, q⟩ := List.mem_filterMap.mp m
      exact notIn (List.mem_filterMap.mpr ⟨v, List.mem_cons_of_mem _ hv, q⟩)
    have S3 := J3.suite at3 dt3 ne nLoc nFs
    have look : PySem.W.Looks (model X.prog X.w) g3 (typeOf (.ref e)) kd := fun A Q E r k q => wpAny_typeOf_ref (k _ _ at3) (by rw [z3.1]; exact q)
    have test : ∀ {nm : Str} {p1 : Pos} {k : Value} {Q : Value → Shared → Prop} {E : Value → Shared → Prop}, Names X nm k → Q k { t with heap := g3 } → wpAny (model X.prog X.w) (X.A.mark (some (.ref e))) (eval (.Name nm p1) X.env) Q E { t with heap := g3 } := fun {nm p1 k Q E} hk q => by
      obtain ⟨hg, hdb, hm | ⟨hm, hv, hnn⟩⟩ := hk
      · exact ld_glob (X := X.suite e ((e, ob3) :: (X.pn ++ pins))) S3 hg hm q hdb
      · exact ld_blt (X := X.suite e ((e, ob3) :: (X.pn ++ pins))) S3 hg hm hv q hnn hdb
    have all : ∀ {hl2 : List ExceptHandler} {wl2 : List (Value × (Addr → Value → Option Addr → TS))}, Cls2 X hl2 wl2 → wMany X.K Wo D wl2 kd d ρ G →
        wpAny (model X.prog X.w) X.A (handleBy (.ref e) X.env hl2) (SP X pins D) X.xe { t with heap := g3 } := by
      intro hl2 wl2 hc
      induction hc with
      | nil =>
        intro w
        refine wpAny_handleBy_nil ?_
        obtain ⟨k1, k2, k3, ob, fs, T, oT, us, he, hz, hd, hh1, hr⟩ := id fl3
        unfold PySem.passOn
        refine wpAny_bind (wpAny_field he hd hh1 ?_)
        rw [if_neg (show ¬ ((Value.ref T == Value.none) = true) from by simp)]
        have fin : wpAny (model X.prog X.w) X.A (setFlight (.ref e) X.env.frame) (fun _ r4 => wpAny (model X.prog X.w) X.A (throw (.ref e) : Sem Flow) (SP X pins D) X.xe r4) X.xe { t with heap := g3 } := by
          rw [hfr0]
          refine HandSPX.setFlight_upZ fl3 fun g4 hg4 up4 => wpAny_throw (tk _ _ ?_)
          exact ⟨e, B, sI, pins, ρ, G, kd, d, rfl, J, nb, (up.trans up3).trans up4, .inr (.inr (by rw [hst]; exact hg4)), ne, os, ag, w⟩
        first
          | exact wpAny_bind (wpAny_pure (wpAny_bind fin))
          | exact wpAny_bind fin
      | @bare nm k ts st sts p1 p2 hl3 wl3 hk su more ih =>
        intro w
        obtain ⟨b, hb1, yes, no⟩ := w
        refine wpAny_handleBy_cons (codeAny_handlers_test ?_) (by intro q; cases q)
        refine test hk ((PySem.W.exm_one (M := model X.prog X.w) (J3.kIn) look hb1).here ?_)
        cases b with
        | true =>
          refine codeAny_handlers_suite ?_
          refine HandSPX.lands_againZ fl3 fun g4 fl4 up4 => ?_
          have J4 : Inv X pins ρ G { t with heap := g4 } := J.landed nb fl4.1 ((up.trans up3).trans up4) os ag
          obtain ⟨ob4, fs4, at4, z4, dt4⟩ := fl4.there
          have S4 := J4.suite at4 dt4 ne nLoc nFs
          refine wpAny_mono ((su e ob4 kd d (X.pn ++ pins) z4 ⟨_, dt4⟩).run [] _ _ G _ S4 (yes rfl e ne)) (fun f r6 hsp => ?_) (fun _ _ z => False.elim z)
          cases f with
          | ret u =>
            obtain ⟨v6, τ6, G6, S6, rel6, q6⟩ := hsp
            exact ⟨_, _, _, S6.unsuite iok, rel6, q6⟩
          | _ =>
            obtain ⟨τ6, G6, S6, q6⟩ := hsp
            exact ⟨_, _, S6.unsuite iok, q6⟩
        | false =>
          show wpAny _ X.A (handleBy (.ref e) X.env hl3) _ _ _
          exact ih (no rfl)
      | @named nm n i k ts st sts p1 p2 hl3 wl3 nd ix lc hk su more ih =>
        intro w
        obtain ⟨b, hb1, yes, no⟩ := w
        refine wpAny_handleBy_cons (codeAny_handlers_test ?_) (by intro q; cases q)
        refine test hk ((PySem.W.exm_one (M := model X.prog X.w) (J3.kIn) look hb1).here ?_)
        cases b with
        | true =>
          refine codeAny_handlers_suite_as ?_
          refine HandSPX.lands_againZ fl3 fun g4 fl4 up4 => ?_
          have J4 : Inv X pins ρ G { t with heap := g4 } := J.landed nb fl4.1 ((up.trans up3).trans up4) os ag
          obtain ⟨ob4, fs4, at4, z4, dt4⟩ := fl4.there
          have S4 := J4.suite at4 dt4 ne nLoc nFs
          refine store_ok (X := X.suite e ((e, ob4) :: (X.pn ++ pins))) (v := .ref e) S4 nd ix (.inl lc) rfl (fun r5 S5 => ?_) (.inr lc)
          refine wpAny_mono ((su e ob4 kd d (X.pn ++ pins) z4 ⟨_, dt4⟩).run [] r5 _ G _ S5 (yes rfl e ne)) (fun f r6 hsp => ?_) (fun _ _ z => False.elim z)
          have goes : ∀ {τ6 : L2.St} {G6 : Hp} {Q : Shared → Prop}, Inv (X.suite e ((e, ob4) :: (X.pn ++ pins))) [] τ6 G6 r6 → (∀ r7, Inv X pins (τ6.set i none) G6 r7 → Q r7) →
              wpAny (model X.prog X.w) X.A (do bindName X.env n .none; unbindBehindTheSuite X.env n p2) (fun _ r7 => Q r7) X.xe r6 := fun {τ6 G6 Q} S6 hq => gone_ok (S6.unsuite iok) nd ix lc hq
          cases f with
          | ret u =>
            obtain ⟨v6, τ6, G6, S6, rel6, q6⟩ := hsp
            exact goes S6 fun r7 J7 => ⟨_, _, _, J7, rel6, q6⟩
          | _ =>
            obtain ⟨τ6, G6, S6, q6⟩ := hsp
            exact goes S6 fun r7 J7 => ⟨_, _, J7, q6⟩
        | false =>
          show wpAny _ X.A (handleBy (.ref e) X.env hl3) _ _ _
          exact ih (no rfl)
    exact all hh w
  · cases f with
    | next =>
      obtain ⟨ρ, G, J0, q⟩ := hsp
      exact wpAny_execs_nil ⟨ρ, G, J0.ofTry iok, q⟩
    | ret u =>
      obtain ⟨v, ρ, G, J0, rel, q⟩ := hsp
      exact ⟨v, ρ, G, J0.ofTry iok, rel, q⟩
    | _ =>
      obtain ⟨ρ, G, J0, q⟩ := hsp
      exact ⟨ρ, G, J0.ofTry iok, q⟩
end
end Jv

/-! ### the walk through a reading -/
local macro_rules | `(tactic| walk_at "r1") => `(tactic| first
  | with_reducible refine Jv.r_seq ?_
  | with_reducible refine Jv.r_asg ?_
  | with_reducible refine Jv.r_gn ?_
  | with_reducible refine Jv.r_ret ?_
  | with_reducible refine Jv.r_retN ?_
  | with_reducible refine Jv.r_drop ?_
  | with_reducible refine Jv.r_if ?_
  | with_reducible refine Jv.r_next ?_
  | with_reducible refine Jv.r_brk ?_
  | with_reducible refine Jv.r_cont ?_
  | ((with_reducible refine' Jv.r_var ?hv ?_); (case hv => rfl))
  | with_reducible refine Jv.r_c ?_
  | with_reducible refine Jv.r_op ?_
  | with_reducible refine Jv.r_un ?_
  | with_reducible refine Jv.r_I0 ?_
  | with_reducible refine Jv.r_U ?_
  | ((with_reducible refine Jv.r_eq ?hs ?_); (case hs => rfl))
  | ((with_reducible refine Jv.r_ne ?hs ?_); (case hs => rfl))
  | with_reducible refine Jv.r_test ?_
  | with_reducible refine Jv.r_B ?_
  | with_reducible refine Jv.r_bl ?_
  | with_reducible refine Jv.r_and ?_
  | with_reducible refine Jv.r_or ?_
  | with_reducible refine Jv.r_not ?_
  | with_reducible refine Jv.r_andV ?_
  | with_reducible refine Jv.r_orV ?_
  | with_reducible refine Jv.r_notV ?_
  | with_reducible refine Jv.r_ife ?_
  | with_reducible refine Jv.r_chain ?_
  | with_reducible refine Jv.r_nil ?_
  | with_reducible refine Jv.r_cons ?_
  | with_reducible refine Jv.r_tup ?_
  | with_reducible refine Jv.r_lst ?_
  | with_reducible refine Jv.r_CB ?_
  | with_reducible refine Jv.r_call ?_
  | with_reducible refine Jv.r_callS ?_
  | with_reducible refine Jv.r_for ?_
  | with_reducible refine Jv.r_iR1 ?_
  | with_reducible refine Jv.r_iR2 ?_
  | with_reducible refine Jv.r_sub ?_
  | with_reducible refine Jv.r_int ?_)
local macro_rules | `(tactic| walk_at "r") => `(tactic| (repeat walk_at "r1"))

local macro_rules | `(tactic| walk_at "cond") => `(tactic| first
  | exact Or.inr ⟨by decide, by decide⟩
  | exact Or.inl ⟨by decide, by decide⟩
  | exact ⟨by decide, by decide⟩
  | exact ⟨by assumption, by assumption⟩
  | exact ⟨by decide, by decide, by decide⟩
  | (show (0 : Int) < _; first | decide | omega)
  | exact Jv.cdivS (by omega) (by omega)
  | exact Or.inr ⟨by omega, by omega⟩
  | exact Or.inl ⟨by omega, by omega⟩)
local macro_rules | `(tactic| walk_at "r1") => `(tactic| ((with_reducible refine Jv.r_I ?hc ?_); (case hc => walk_at "cond")))

local macro_rules | `(tactic| walk_at "ne") => `(tactic| first
  | assumption
  | exact Ne.symm (by assumption)
  | exact L2.ne_of_none (by walk_at "hp") (by assumption)
  | exact Ne.symm (L2.ne_of_none (by walk_at "hp") (by assumption)))
local macro_rules | `(tactic| walk_at "hp") => `(tactic| first
  | assumption
  | exact L2.upd_same
  | ((refine' Jv.kp ?hp1 ?hp2); (case hp2 => assumption); (case hp1 => walk_at "hp"))
  | ((refine' Jv.kpO ?hp1 ?hp2); (case hp1 => walk_at "hp"); (case hp2 => walk_at "ne")))
local macro_rules | `(tactic| walk_at "sq") => `(tactic| first
  | assumption
  | ((refine' Jv.sqT_at ?sq1); (case sq1 => walk_at "hp"))
  | ((refine' Jv.sqL_at ?sq1); (case sq1 => walk_at "hp"))
  | ((refine' Jv.sqT_new ?sq1 ?sq2); (case sq2 => assumption); (case sq1 => walk_at "sq"))
  | ((refine' Jv.sqL_new ?sq1 ?sq2); (case sq2 => assumption); (case sq1 => walk_at "sq"))
  | ((refine' L2.Same.seq ?sq1 ?sq2); (case sq1 => assumption); (case sq2 => assumption))
  | ((refine' Jv.Same.sqT ?sq1 ?sq2); (case sq1 => assumption); (case sq2 => assumption)))
local macro_rules | `(tactic| walk_at "r1") => `(tactic| first
  | ((with_reducible refine' Jv.r_gtup ?hq ?hl ?_); (case hq => walk_at "sq"); (case hl => rfl))
  | with_reducible refine Jv.r_gcons ?_
  | with_reducible refine Jv.r_gnil ?_
  | with_reducible refine Jv.r_iEn ?_
  | with_reducible refine Jv.r_iL ?_
  | with_reducible refine Jv.r_iT ?_
  | with_reducible refine Jv.r_yes ?_
  | with_reducible refine Jv.r_ift ?_
  | with_reducible refine Jv.r_iff ?_
  | ((with_reducible refine' Jv.r_new ?hn ?_); (case hn => exact Nat.le_of_ble_eq_true rfl))
  | ((with_reducible refine' Jv.r_wipe ?he ?_); (case he => rfl)))
local macro_rules | `(tactic| walk_at "len") => `(tactic| first
  | exact Or.inl (by walk_at "sq")
  | exact Or.inr (by walk_at "sq"))
local macro_rules | `(tactic| walk_at "r1") => `(tactic| first
  | ((with_reducible refine' Jv.r_ixL ?hs ?he ?_); (case hs => walk_at "sq"); (case he => rfl))
  | ((with_reducible refine' Jv.r_ixT ?hs ?he ?_); (case hs => walk_at "sq"); (case he => rfl))
  | ((with_reducible refine' Jv.r_setL ?hs ?he ?_); (case hs => walk_at "hp"); (case he => rfl))
  | ((with_reducible refine' Jv.r_len ?hs ?_); (case hs => walk_at "len")))
local macro_rules | `(tactic| walk_at "th") => `(tactic| first
  | assumption
  | exact Jv.Th.same (by assumption) (by assumption)
  | exact Jv.Th.same (by assumption) (Jv.same_new (by assumption))
  | exact trivial)
local macro_rules | `(tactic| walk_at "r1") => `(tactic| first
  | ((with_reducible refine' Jv.r_isB ?hx ?_); (case hx => walk_at "th"))
  | ((with_reducible refine' Jv.r_isI ?hx ?_); (case hx => walk_at "th"))
  | ((with_reducible refine' Jv.r_isS ?hp ?hx ?_); (case hp => walk_at "hp"); (case hx => walk_at "th"))
  | ((with_reducible refine' Jv.r_false ?he ?_); (case he => rfl))
  | ((with_reducible refine' Jv.r_true ?he ?_); (case he => rfl))
  | with_reducible refine Jv.r_rfl ?_)
local macro_rules | `(tactic| walk_at "r2") => `(tactic| first
  | walk_at "r1"
  | ((with_reducible refine' Jv.r_dec1 ?hd ?_); (case hd => omega))
  | ((with_reducible refine' Jv.r_dec0 ?hd ?_); (case hd => omega))
  | with_reducible refine Jv.r_decI (fun _ => ?_) (fun _ => ?_)
  | with_reducible refine Jv.r_ndecI (fun _ => ?_) (fun _ => ?_)
  | with_reducible refine Jv.r_dec (fun _ => ?_) (fun _ => ?_)
  | with_reducible refine Jv.r_ndec (fun _ => ?_) (fun _ => ?_))
local macro_rules | `(tactic| walk_at "rr") => `(tactic| (repeat' walk_at "r2"))
local macro_rules | `(tactic| walk_at "r1") => `(tactic| first
  | with_reducible refine Jv.r_min ?_
  | with_reducible refine Jv.r_max ?_
  | with_reducible refine Jv.r_absN ?_
  | with_reducible refine Jv.r_intN ?_)
local macro_rules | `(tactic| walk_at "r1") => `(tactic| first
  | with_reducible refine Jv.r_bm ?_
  | ((with_reducible refine' Jv.r_tyL ?hp ?_); (case hp => walk_at "hp")))

local macro_rules | `(tactic| walk_at "r1") => `(tactic| first
  | with_reducible refine Jv.r_callN ?_
  | with_reducible refine Jv.r_disp1 ?_
  | with_reducible refine Jv.r_same ?_)

local macro_rules | `(tactic| walk_at "dv") => `(tactic| first
  | assumption
  | exact Jv.Dv.same (by assumption) (by assumption)
  | exact Jv.Dv.same (Jv.same_new (by assumption)) (by assumption)
  | exact Jv.Dv.int _
  | exact Jv.Dv.non
  | exact Jv.Dv.bl _)
local macro_rules | `(tactic| walk_at "r1") => `(tactic| first
  | ((with_reducible refine' Jv.d_isB ?hx ?_); (case hx => walk_at "dv"))
  | ((with_reducible refine' Jv.d_isI ?hx ?_); (case hx => walk_at "dv"))
  | ((with_reducible refine' Jv.d_isS ?hp ?hx ?_); (case hp => walk_at "hp"); (case hx => walk_at "dv")))

namespace K04
open PySem PySem.Spec PyProof.Rows L2
def topS (i : Nat) : Stmt := PySem.Challenge.pw_risingcalls_k04_whole_goals_made_of_goal.main.body.getD i (.Pass ⟨0, 0, 0, 0⟩)
abbrev s_BadGoalsu_initu : Stmt := inClass (topS 3) 0
abbrev s_BadLotu_initu : Stmt := inClass (topS 5) 0
abbrev s_is_whole : Stmt := topS 14
abbrev s_is_truth : Stmt := topS 15
abbrev s_is_sequence : Stmt := topS 16
abbrev s_check_side : Stmt := topS 17
abbrev s_are_sides : Stmt := topS 18
abbrev s_check_couple : Stmt := topS 19
abbrev s_are_kinds : Stmt := topS 20
abbrev s_is_lot : Stmt := topS 21
abbrev s_check_lot : Stmt := topS 22
abbrev s_is_order : Stmt := topS 23
abbrev s_check_side_order : Stmt := topS 24
abbrev s_sides_of_lines : Stmt := topS 26
abbrev s_renumbered_lines : Stmt := topS 27
abbrev s_are_ends : Stmt := topS 28
abbrev s_is_knowing : Stmt := topS 29
abbrev s_raised_end : Stmt := topS 30
abbrev s_Goalsu_initu : Stmt := inClass (topS 31) 0
abbrev s_Goalsu_equ : Stmt := inClass (topS 31) 1
abbrev s_Goals_kept : Stmt := inClass (topS 31) 5
abbrev s_Goals_renumbered : Stmt := inClass (topS 31) 6
abbrev s_Goals_raised : Stmt := inClass (topS 31) 7
abbrev s_Goals_without_foes : Stmt := inClass (topS 31) 8
abbrev s_Goals_with_end : Stmt := inClass (topS 31) 9
abbrev s_Goals_all_wanted : Stmt := inClass (topS 31) 10
abbrev s_Lmix : Stmt := topS 33
abbrev s_Lhand : Stmt := topS 34
abbrev s_Ldraw : Stmt := topS 35
abbrev s_Lwhole : Stmt := topS 36
abbrev s_Lis : Stmt := topS 37
abbrev s_Lwide_sides : Stmt := topS 38
abbrev s_Lends : Stmt := topS 39
abbrev s_Lneat : Stmt := topS 40
abbrev s_Lraw_wanted : Stmt := topS 41
abbrev s_Lneat_wanted : Stmt := topS 42
abbrev s_Ltruths : Stmt := topS 43
abbrev s_Lgoal_facts : Stmt := topS 44
abbrev s_Lorder : Stmt := topS 45
abbrev s_Llot : Stmt := topS 46
abbrev s_Lkept : Stmt := topS 47
abbrev s_Lrenumbered : Stmt := topS 48
abbrev s_Lraised : Stmt := topS 49
abbrev s_Lwithout : Stmt := topS 50
abbrev s_Lended : Stmt := topS 51
abbrev s_Lall : Stmt := topS 52
abbrev s_Lcut_right : Stmt := topS 53
abbrev s_Lraise_right : Stmt := topS 54
abbrev s_law : Stmt := topS 55
theorem sc_BadGoalsu_initu : FnScope ["self", "what"] ["self", "what"] (defScope s_BadGoalsu_initu) := ⟨rfl, rfl, rfl, by decide +kernel, rfl, by decide +kernel, by decide +kernel⟩
theorem sc_BadLotu_initu : FnScope ["self", "side"] ["self", "side"] (defScope s_BadLotu_initu) := ⟨rfl, rfl, rfl, by decide +kernel, rfl, by decide +kernel, by decide +kernel⟩
theorem sc_is_whole : FnScope ["thing", "low", "high"] ["thing", "low", "high"] (defScope s_is_whole) := ⟨rfl, rfl, rfl, by decide +kernel, rfl, by decide +kernel, by decide +kernel⟩
theorem sc_is_truth : FnScope ["thing"] ["thing"] (defScope s_is_truth) := ⟨rfl, rfl, rfl, by decide +kernel, rfl, by decide +kernel, by decide +kernel⟩
theorem sc_is_sequence : FnScope ["thing"] ["thing"] (defScope s_is_sequence) := ⟨rfl, rfl, rfl, by decide +kernel, rfl, by decide +kernel, by decide +kernel⟩
theorem sc_check_side : FnScope ["side"] ["side"] (defScope s_check_side) := ⟨rfl, rfl, rfl, by decide +kernel, rfl, by decide +kernel, by decide +kernel⟩
theorem sc_are_sides : FnScope ["thing", "kinds"] ["thing"] (defScope s_are_sides) := ⟨rfl, rfl, rfl, by decide +kernel, rfl, by decide +kernel, by decide +kernel⟩
theorem sc_check_couple : FnScope ["sides", "couple", "side"] ["sides", "couple"] (defScope s_check_couple) := ⟨rfl, rfl, rfl, by decide +kernel, rfl, by decide +kernel, by decide +kernel⟩
theorem sc_are_kinds : FnScope ["thing", "kinds", "kind"] ["thing", "kinds"] (defScope s_are_kinds) := ⟨rfl, rfl, rfl, by decide +kernel, rfl, by decide +kernel, by decide +kernel⟩
theorem sc_is_lot : FnScope ["thing", "kinds"] ["thing", "kinds"] (defScope s_is_lot) := ⟨rfl, rfl, rfl, by decide +kernel, rfl, by decide +kernel, by decide +kernel⟩
theorem sc_check_lot : FnScope ["lot", "kinds", "side"] ["lot", "kinds", "side"] (defScope s_check_lot) := ⟨rfl, rfl, rfl, by decide +kernel, rfl, by decide +kernel, by decide +kernel⟩
theorem sc_is_order : FnScope ["thing", "many"] ["thing", "many"] (defScope s_is_order) := ⟨rfl, rfl, rfl, by decide +kernel, rfl, by decide +kernel, by decide +kernel⟩
theorem sc_check_side_order : FnScope ["order", "kinds", "side"] ["order", "kinds", "side"] (defScope s_check_side_order) := ⟨rfl, rfl, rfl, by decide +kernel, rfl, by decide +kernel, by decide +kernel⟩
theorem sc_sides_of_lines : FnScope ["lines", "lengths", "line"] ["lines"] (defScope s_sides_of_lines) := ⟨rfl, rfl, rfl, by decide +kernel, rfl, by decide +kernel, by decide +kernel⟩
theorem sc_renumbered_lines : FnScope ["lines", "side", "order", "line", "kind"] ["lines", "side", "order"] (defScope s_renumbered_lines) := ⟨rfl, rfl, rfl, by decide +kernel, rfl, by decide +kernel, by decide +kernel⟩
theorem sc_are_ends : FnScope ["thing", "ladder", "end"] ["thing", "ladder"] (defScope s_are_ends) := ⟨rfl, rfl, rfl, by decide +kernel, rfl, by decide +kernel, by decide +kernel⟩
theorem sc_is_knowing : FnScope ["thing", "part"] ["thing"] (defScope s_is_knowing) := ⟨rfl, rfl, rfl, by decide +kernel, rfl, by decide +kernel, by decide +kernel⟩
theorem sc_raised_end : FnScope ["end", "by"] ["end", "by"] (defScope s_raised_end) := ⟨rfl, rfl, rfl, by decide +kernel, rfl, by decide +kernel, by decide +kernel⟩
theorem sc_Goalsu_initu : FnScope ["self", "ladder", "wanted", "knows", "sides", "line", "ends"] ["self", "ladder", "wanted", "knows"] (defScope s_Goalsu_initu) := ⟨rfl, rfl, rfl, by decide +kernel, rfl, by decide +kernel, by decide +kernel⟩
theorem sc_Goalsu_equ : FnScope ["self", "other"] ["self", "other"] (defScope s_Goalsu_equ) := ⟨rfl, rfl, rfl, by decide +kernel, rfl, by decide +kernel, by decide +kernel⟩
theorem sc_Goals_kept : FnScope ["self", "east_lot", "west_lot", "east", "west", "e", "w"] ["self", "east_lot", "west_lot"] (defScope s_Goals_kept) := ⟨rfl, rfl, rfl, by decide +kernel, rfl, by decide +kernel, by decide +kernel⟩
theorem sc_Goals_renumbered : FnScope ["self", "side", "order", "turned"] ["self", "side", "order"] (defScope s_Goals_renumbered) := ⟨rfl, rfl, rfl, by decide +kernel, rfl, by decide +kernel, by decide +kernel⟩
theorem sc_Goals_raised : FnScope ["self", "by", "wanted", "line", "ends", "end"] ["self", "by"] (defScope s_Goals_raised) := ⟨rfl, rfl, rfl, by decide +kernel, rfl, by decide +kernel, by decide +kernel⟩
theorem sc_Goals_without_foes : FnScope ["self", "wanted", "line", "ends", "end"] ["self"] (defScope s_Goals_without_foes) := ⟨rfl, rfl, rfl, by decide +kernel, rfl, by decide +kernel, by decide +kernel⟩
theorem sc_Goals_with_end : FnScope ["self", "couple", "end", "east", "west", "wanted", "line"] ["self", "couple", "end"] (defScope s_Goals_with_end) := ⟨rfl, rfl, rfl, by decide +kernel, rfl, by decide +kernel, by decide +kernel⟩
theorem sc_Goals_all_wanted : FnScope ["sides", "ladder", "knows", "ends"] ["sides", "ladder", "knows"] (defScope s_Goals_all_wanted) := ⟨rfl, rfl, rfl, by decide +kernel, rfl, by decide +kernel, by decide +kernel⟩
theorem sc_Lmix : FnScope ["_law_number", "_law_turn", "_law_once", "_law_twice"] ["_law_number", "_law_turn"] (defScope s_Lmix) := ⟨rfl, rfl, rfl, by decide +kernel, rfl, by decide +kernel, by decide +kernel⟩
theorem sc_Lhand : FnScope ["_law_script", "_law_total", "_law_k", "_law_cell"] ["_law_script"] (defScope s_Lhand) := ⟨rfl, rfl, rfl, by decide +kernel, rfl, by decide +kernel, by decide +kernel⟩
theorem sc_Ldraw : FnScope ["_law_hand_here", "_law_many", "_law_cell", "_law_rest"] ["_law_hand_here", "_law_many"] (defScope s_Ldraw) := ⟨rfl, rfl, rfl, by decide +kernel, rfl, by decide +kernel, by decide +kernel⟩
theorem sc_Lwhole : FnScope ["_law_thing"] ["_law_thing"] (defScope s_Lwhole) := ⟨rfl, rfl, rfl, by decide +kernel, rfl, by decide +kernel, by decide +kernel⟩
theorem sc_Lis : FnScope ["_law_thing", "_law_due"] ["_law_thing", "_law_due"] (defScope s_Lis) := ⟨rfl, rfl, rfl, by decide +kernel, rfl, by decide +kernel, by decide +kernel⟩
theorem sc_Lwide_sides : FnScope ["_law_hand_here", "_law_p", "_law_q"] ["_law_hand_here"] (defScope s_Lwide_sides) := ⟨rfl, rfl, rfl, by decide +kernel, rfl, by decide +kernel, by decide +kernel⟩
theorem sc_Lends : FnScope ["_law_hand_here", "_law_ladder", "_law_ends_here", "_law_turn"] ["_law_hand_here", "_law_ladder"] (defScope s_Lends) := ⟨rfl, rfl, rfl, by decide +kernel, rfl, by decide +kernel, by decide +kernel⟩
theorem sc_Lneat : FnScope ["_law_ends_here", "_law_ladder", "_law_end"] ["_law_ends_here", "_law_ladder"] (defScope s_Lneat) := ⟨rfl, rfl, rfl, by decide +kernel, rfl, by decide +kernel, by decide +kernel⟩
theorem sc_Lraw_wanted : FnScope ["_law_hand_here", "_law_sides", "_law_ladder", "_law_lines", "_law_east", "_law_line", "_law_west", "_law_ends_here"] ["_law_hand_here", "_law_sides", "_law_ladder"] (defScope s_Lraw_wanted) := ⟨rfl, rfl, rfl, by decide +kernel, rfl, by decide +kernel, by decide +kernel⟩
theorem sc_Lneat_wanted : FnScope ["_law_lines", "_law_ladder", "_law_line", "_law_ends_here"] ["_law_lines", "_law_ladder"] (defScope s_Lneat_wanted) := ⟨rfl, rfl, rfl, by decide +kernel, rfl, by decide +kernel, by decide +kernel⟩
theorem sc_Ltruths : FnScope ["_law_hand_here"] ["_law_hand_here"] (defScope s_Ltruths) := ⟨rfl, rfl, rfl, by decide +kernel, rfl, by decide +kernel, by decide +kernel⟩
theorem sc_Lgoal_facts : FnScope ["_law_goals", "_law_ladder", "_law_wanted", "_law_known", "_law_line", "_law_ends_here", "_law_end"] ["_law_goals", "_law_ladder", "_law_wanted", "_law_known"] (defScope s_Lgoal_facts) := ⟨rfl, rfl, rfl, by decide +kernel, rfl, by decide +kernel, by decide +kernel⟩
theorem sc_Lorder : FnScope ["_law_hand_here", "_law_many", "_law_left", "_law_order_here", "_law_turn"] ["_law_hand_here", "_law_many"] (defScope s_Lorder) := ⟨rfl, rfl, rfl, by decide +kernel, rfl, by decide +kernel, by decide +kernel⟩
theorem sc_Llot : FnScope ["_law_hand_here", "_law_many", "_law_lot_here", "_law_kind", "_law_bit", "_law_turn"] ["_law_hand_here", "_law_many"] (defScope s_Llot) := ⟨rfl, rfl, rfl, by decide +kernel, rfl, by decide +kernel, by decide +kernel⟩
theorem sc_Lkept : FnScope ["_law_goals", "_law_east_lot", "_law_west_lot", "e"] ["_law_goals", "_law_east_lot", "_law_west_lot"] (defScope s_Lkept) := ⟨rfl, rfl, rfl, by decide +kernel, rfl, by decide +kernel, by decide +kernel⟩
theorem sc_Lrenumbered : FnScope ["_law_goals", "_law_side", "_law_order_here", "e"] ["_law_goals", "_law_side", "_law_order_here"] (defScope s_Lrenumbered) := ⟨rfl, rfl, rfl, by decide +kernel, rfl, by decide +kernel, by decide +kernel⟩
theorem sc_Lraised : FnScope ["_law_goals", "_law_by", "e"] ["_law_goals", "_law_by"] (defScope s_Lraised) := ⟨rfl, rfl, rfl, by decide +kernel, rfl, by decide +kernel, by decide +kernel⟩
theorem sc_Lwithout : FnScope ["_law_goals", "e"] ["_law_goals"] (defScope s_Lwithout) := ⟨rfl, rfl, rfl, by decide +kernel, rfl, by decide +kernel, by decide +kernel⟩
theorem sc_Lended : FnScope ["_law_goals", "_law_couple", "_law_end"] ["_law_goals", "_law_couple", "_law_end"] (defScope s_Lended) := ⟨rfl, rfl, rfl, by decide +kernel, rfl, by decide +kernel, by decide +kernel⟩
theorem sc_Lall : FnScope ["_law_sides", "_law_ladder", "_law_knows", "e"] ["_law_sides", "_law_ladder", "_law_knows"] (defScope s_Lall) := ⟨rfl, rfl, rfl, by decide +kernel, rfl, by decide +kernel, by decide +kernel⟩
theorem sc_Lcut_right : FnScope ["_law_hand_here", "_law_goals", "_law_sides", "_law_one", "_law_ladder", "_law_wanted", "_law_knows", "_law_east", "_law_west", "_law_due", "_law_bad", "_law_order_here", "_law_turn", "_law_bent", "_law_first", "_law_kind", "_law_line", "_law_second"] ["_law_hand_here", "_law_goals", "_law_sides", "_law_one"] (defScope s_Lcut_right) := ⟨rfl, rfl, rfl, by decide +kernel, rfl, by decide +kernel, by decide +kernel⟩
theorem sc_Lraise_right : FnScope ["_law_goals", "_law_one", "_law_ladder", "_law_wanted", "_law_knows", "_law_by", "_law_told", "_law_lines", "_law_line", "_law_ends_here", "_law_end"] ["_law_goals", "_law_one"] (defScope s_Lraise_right) := ⟨rfl, rfl, rfl, by decide +kernel, rfl, by decide +kernel, by decide +kernel⟩
theorem sc_law : FnScope ["_law_script", "_law_hand_here", "_law_turn", "_law_sides", "_law_ladder", "_law_wanted", "_law_knows", "_law_one", "_law_goals", "_law_end", "_law_plain", "_law_empty", "_law_told", "_law_couple", "_law_lines", "_law_due", "_law_bad", "_law_every", "_law_full", "_law_shape", "_law_line", "_law_east", "_law_ends_here", "_law_west"] ["_law_script"] (defScope s_law) := ⟨rfl, rfl, rfl, by decide +kernel, rfl, by decide +kernel, by decide +kernel⟩
structure Tx where
  f_BadGoalsu_initu : Addr
  d_BadGoalsu_initu : FuncData
  f_BadLotu_initu : Addr
  d_BadLotu_initu : FuncData
  f_is_whole : Addr
  d_is_whole : FuncData
  f_is_truth : Addr
  d_is_truth : FuncData
  f_is_sequence : Addr
  d_is_sequence : FuncData
  f_check_side : Addr
  d_check_side : FuncData
  f_are_sides : Addr
  d_are_sides : FuncData
  f_check_couple : Addr
  d_check_couple : FuncData
  f_are_kinds : Addr
  d_are_kinds : FuncData
  f_is_lot : Addr
  d_is_lot : FuncData
  f_check_lot : Addr
  d_check_lot : FuncData
  f_is_order : Addr
  d_is_order : FuncData
  f_check_side_order : Addr
  d_check_side_order : FuncData
  f_sides_of_lines : Addr
  d_sides_of_lines : FuncData
  f_renumbered_lines : Addr
  d_renumbered_lines : FuncData
  f_are_ends : Addr
  d_are_ends : FuncData
  f_is_knowing : Addr
  d_is_knowing : FuncData
  f_raised_end : Addr
  d_raised_end : FuncData
  f_Goalsu_initu : Addr
  d_Goalsu_initu : FuncData
  f_Goalsu_equ : Addr
  d_Goalsu_equ : FuncData
  f_Goals_kept : Addr
  d_Goals_kept : FuncData
  f_Goals_renumbered : Addr
  d_Goals_renumbered : FuncData
  f_Goals_raised : Addr
  d_Goals_raised : FuncData
  f_Goals_without_foes : Addr
  d_Goals_without_foes : FuncData
  f_Goals_with_end : Addr
  d_Goals_with_end : FuncData
  f_Goals_all_wanted : Addr
  d_Goals_all_wanted : FuncData
  f_Lmix : Addr
  d_Lmix : FuncData
  f_Lhand : Addr
  d_Lhand : FuncData
  f_Ldraw : Addr
  d_Ldraw : FuncData
  f_Lwhole : Addr
  d_Lwhole : FuncData
  f_Lis : Addr
  d_Lis : FuncData
  f_Lwide_sides : Addr
  d_Lwide_sides : FuncData
  f_Lends : Addr
  d_Lends : FuncData
  f_Lneat : Addr
  d_Lneat : FuncData
  f_Lraw_wanted : Addr
  d_Lraw_wanted : FuncData
  f_Lneat_wanted : Addr
  d_Lneat_wanted : FuncData
  f_Ltruths : Addr
  d_Ltruths : FuncData
  f_Lgoal_facts : Addr
  d_Lgoal_facts : FuncData
  f_Lorder : Addr
  d_Lorder : FuncData
  f_Llot : Addr
  d_Llot : FuncData
  f_Lkept : Addr
  d_Lkept : FuncData
  f_Lrenumbered : Addr
  d_Lrenumbered : FuncData
  f_Lraised : Addr
  d_Lraised : FuncData
  f_Lwithout : Addr
  d_Lwithout : FuncData
  f_Lended : Addr
  d_Lended : FuncData
  f_Lall : Addr
  d_Lall : FuncData
  f_Lcut_right : Addr
  d_Lcut_right : FuncData
  f_Lraise_right : Addr
  d_Lraise_right : FuncData
  f_law : Addr
  d_law : FuncData
  C_CallError : Addr
  C_BadGoals : Addr
  C_BadCouple : Addr
  C_BadLot : Addr
  C_BadSide : Addr
  C_BadEnd : Addr
  C_Goals : Addr
  p_Goals_all_wanted : Addr
  t_EAST : Tok
  t_WEST : Tok
  t_LADDER_MOST : Tok
  t_KINDS_MOST : Tok
  t_COUPLES_MOST : Tok
  e1_is_whole : List Value
  e2_is_whole : List Value
  e1_Goalsu_initu : List Value
  w0_Goalsu_initu : Addr
  e1_Goals_all_wanted : List Value
  w0_Goals_all_wanted : Addr
structure Ok (K : PySem.W.Frag) (mg : Str → Option Value) (T : Tx) : Prop where
  F_BadGoalsu_initu : Fun K "__init__" "BadGoals.__init__" s_BadGoalsu_initu T.f_BadGoalsu_initu T.d_BadGoalsu_initu
  b_BadGoalsu_initu : Binds K T.d_BadGoalsu_initu ["self", "what"] []
  F_BadLotu_initu : Fun K "__init__" "BadLot.__init__" s_BadLotu_initu T.f_BadLotu_initu T.d_BadLotu_initu
  b_BadLotu_initu : Binds K T.d_BadLotu_initu ["self", "side"] []
  F_is_whole : FunD K "is_whole" "is_whole" (defArgs s_is_whole) (defBody s_is_whole) (defScope s_is_whole) [.non, .non] [] T.f_is_whole T.d_is_whole
  m_is_whole : mg "is_whole" = some (.ref T.f_is_whole)
  b_is_whole : Binds K T.d_is_whole ["thing", "low", "high"] []
  b1_is_whole : Vals [.non] T.e1_is_whole ∧ Binds K T.d_is_whole ["thing", "low", "high"] T.e1_is_whole
  b2_is_whole : Vals [.non, .non] T.e2_is_whole ∧ Binds K T.d_is_whole ["thing", "low", "high"] T.e2_is_whole
  F_is_truth : Fun K "is_truth" "is_truth" s_is_truth T.f_is_truth T.d_is_truth
  m_is_truth : mg "is_truth" = some (.ref T.f_is_truth)
  b_is_truth : Binds K T.d_is_truth ["thing"] []
  F_is_sequence : Fun K "is_sequence" "is_sequence" s_is_sequence T.f_is_sequence T.d_is_sequence
  m_is_sequence : mg "is_sequence" = some (.ref T.f_is_sequence)
  b_is_sequence : Binds K T.d_is_sequence ["thing"] []
  F_check_side : Fun K "check_side" "check_side" s_check_side T.f_check_side T.d_check_side
  m_check_side : mg "check_side" = some (.ref T.f_check_side)
  b_check_side : Binds K T.d_check_side ["side"] []
  F_are_sides : Fun K "are_sides" "are_sides" s_are_sides T.f_are_sides T.d_are_sides
  m_are_sides : mg "are_sides" = some (.ref T.f_are_sides)
  b_are_sides : Binds K T.d_are_sides ["thing"] []
  F_check_couple : Fun K "check_couple" "check_couple" s_check_couple T.f_check_couple T.d_check_couple
  m_check_couple : mg "check_couple" = some (.ref T.f_check_couple)
  b_check_couple : Binds K T.d_check_couple ["sides", "couple"] []
  F_are_kinds : Fun K "are_kinds" "are_kinds" s_are_kinds T.f_are_kinds T.d_are_kinds
  m_are_kinds : mg "are_kinds" = some (.ref T.f_are_kinds)
  b_are_kinds : Binds K T.d_are_kinds ["thing", "kinds"] []
  F_is_lot : Fun K "is_lot" "is_lot" s_is_lot T.f_is_lot T.d_is_lot
  m_is_lot : mg "is_lot" = some (.ref T.f_is_lot)
  b_is_lot : Binds K T.d_is_lot ["thing", "kinds"] []
  F_check_lot : Fun K "check_lot" "check_lot" s_check_lot T.f_check_lot T.d_check_lot
  m_check_lot : mg "check_lot" = some (.ref T.f_check_lot)
  b_check_lot : Binds K T.d_check_lot ["lot", "kinds", "side"] []
  F_is_order : Fun K "is_order" "is_order" s_is_order T.f_is_order T.d_is_order
  m_is_order : mg "is_order" = some (.ref T.f_is_order)
  b_is_order : Binds K T.d_is_order ["thing", "many"] []
  F_check_side_order : Fun K "check_side_order" "check_side_order" s_check_side_order T.f_check_side_order T.d_check_side_order
  m_check_side_order : mg "check_side_order" = some (.ref T.f_check_side_order)
  b_check_side_order : Binds K T.d_check_side_order ["order", "kinds", "side"] []
  F_sides_of_lines : Fun K "sides_of_lines" "sides_of_lines" s_sides_of_lines T.f_sides_of_lines T.d_sides_of_lines
  m_sides_of_lines : mg "sides_of_lines" = some (.ref T.f_sides_of_lines)
  b_sides_of_lines : Binds K T.d_sides_of_lines ["lines"] []
  F_renumbered_lines : Fun K "renumbered_lines" "renumbered_lines" s_renumbered_lines T.f_renumbered_lines T.d_renumbered_lines
  m_renumbered_lines : mg "renumbered_lines" = some (.ref T.f_renumbered_lines)
  b_renumbered_lines : Binds K T.d_renumbered_lines ["lines", "side", "order"] []
  F_are_ends : Fun K "are_ends" "are_ends" s_are_ends T.f_are_ends T.d_are_ends
  m_are_ends : mg "are_ends" = some (.ref T.f_are_ends)
  b_are_ends : Binds K T.d_are_ends ["thing", "ladder"] []
  F_is_knowing : Fun K "is_knowing" "is_knowing" s_is_knowing T.f_is_knowing T.d_is_knowing
  m_is_knowing : mg "is_knowing" = some (.ref T.f_is_knowing)
  b_is_knowing : Binds K T.d_is_knowing ["thing"] []
  F_raised_end : Fun K "raised_end" "raised_end" s_raised_end T.f_raised_end T.d_raised_end
  m_raised_end : mg "raised_end" = some (.ref T.f_raised_end)
  b_raised_end : Binds K T.d_raised_end ["end", "by"] []
  F_Goalsu_initu : FunD K "__init__" "Goals.__init__" (defArgs s_Goalsu_initu) (defBody s_Goalsu_initu) (defScope s_Goalsu_initu) [(.ref T.w0_Goalsu_initu)] [] T.f_Goalsu_initu T.d_Goalsu_initu
  y0_Goalsu_initu : ∀ H : Hp, SqT K H T.w0_Goalsu_initu [(.bl false), (.bl false)]
  b_Goalsu_initu : Binds K T.d_Goalsu_initu ["self", "ladder", "wanted", "knows"] []
  b1_Goalsu_initu : Vals [(.ref T.w0_Goalsu_initu)] T.e1_Goalsu_initu ∧ Binds K T.d_Goalsu_initu ["self", "ladder", "wanted", "knows"] T.e1_Goalsu_initu
  F_Goalsu_equ : Fun K "__eq__" "Goals.__eq__" s_Goalsu_equ T.f_Goalsu_equ T.d_Goalsu_equ
  b_Goalsu_equ : Binds K T.d_Goalsu_equ ["self", "other"] []
  F_Goals_kept : Fun K "kept" "Goals.kept" s_Goals_kept T.f_Goals_kept T.d_Goals_kept
  b_Goals_kept : Binds K T.d_Goals_kept ["self", "east_lot", "west_lot"] []
  F_Goals_renumbered : Fun K "renumbered" "Goals.renumbered" s_Goals_renumbered T.f_Goals_renumbered T.d_Goals_renumbered
  b_Goals_renumbered : Binds K T.d_Goals_renumbered ["self", "side", "order"] []
  F_Goals_raised : Fun K "raised" "Goals.raised" s_Goals_raised T.f_Goals_raised T.d_Goals_raised
  b_Goals_raised : Binds K T.d_Goals_raised ["self", "by"] []
  F_Goals_without_foes : Fun K "without_foes" "Goals.without_foes" s_Goals_without_foes T.f_Goals_without_foes T.d_Goals_without_foes
  b_Goals_without_foes : Binds K T.d_Goals_without_foes ["self"] []
  F_Goals_with_end : Fun K "with_end" "Goals.with_end" s_Goals_with_end T.f_Goals_with_end T.d_Goals_with_end
  b_Goals_with_end : Binds K T.d_Goals_with_end ["self", "couple", "end"] []
  F_Goals_all_wanted : FunD K "all_wanted" "Goals.all_wanted" (defArgs s_Goals_all_wanted) (defBody s_Goals_all_wanted) (defScope s_Goals_all_wanted) [(.ref T.w0_Goals_all_wanted)] [] T.f_Goals_all_wanted T.d_Goals_all_wanted
  y0_Goals_all_wanted : ∀ H : Hp, SqT K H T.w0_Goals_all_wanted [(.bl false), (.bl false)]
  b_Goals_all_wanted : Binds K T.d_Goals_all_wanted ["sides", "ladder", "knows"] []
  b1_Goals_all_wanted : Vals [(.ref T.w0_Goals_all_wanted)] T.e1_Goals_all_wanted ∧ Binds K T.d_Goals_all_wanted ["sides", "ladder", "knows"] T.e1_Goals_all_wanted
  F_Lmix : Fun K "_law_mix" "_law_mix" s_Lmix T.f_Lmix T.d_Lmix
  m_Lmix : mg "_law_mix" = some (.ref T.f_Lmix)
  b_Lmix : Binds K T.d_Lmix ["_law_number", "_law_turn"] []
  F_Lhand : Fun K "_law_hand" "_law_hand" s_Lhand T.f_Lhand T.d_Lhand
  m_Lhand : mg "_law_hand" = some (.ref T.f_Lhand)
  b_Lhand : Binds K T.d_Lhand ["_law_script"] []
  F_Ldraw : Fun K "_law_draw" "_law_draw" s_Ldraw T.f_Ldraw T.d_Ldraw
  m_Ldraw : mg "_law_draw" = some (.ref T.f_Ldraw)
  b_Ldraw : Binds K T.d_Ldraw ["_law_hand_here", "_law_many"] []
  F_Lwhole : Fun K "_law_whole" "_law_whole" s_Lwhole T.f_Lwhole T.d_Lwhole
  m_Lwhole : mg "_law_whole" = some (.ref T.f_Lwhole)
  b_Lwhole : Binds K T.d_Lwhole ["_law_thing"] []
  F_Lis : Fun K "_law_is" "_law_is" s_Lis T.f_Lis T.d_Lis
  m_Lis : mg "_law_is" = some (.ref T.f_Lis)
  b_Lis : Binds K T.d_Lis ["_law_thing", "_law_due"] []
  F_Lwide_sides : Fun K "_law_wide_sides" "_law_wide_sides" s_Lwide_sides T.f_Lwide_sides T.d_Lwide_sides
  m_Lwide_sides : mg "_law_wide_sides" = some (.ref T.f_Lwide_sides)
  b_Lwide_sides : Binds K T.d_Lwide_sides ["_law_hand_here"] []
  F_Lends : Fun K "_law_ends" "_law_ends" s_Lends T.f_Lends T.d_Lends
  m_Lends : mg "_law_ends" = some (.ref T.f_Lends)
  b_Lends : Binds K T.d_Lends ["_law_hand_here", "_law_ladder"] []
  F_Lneat : Fun K "_law_neat" "_law_neat" s_Lneat T.f_Lneat T.d_Lneat
  m_Lneat : mg "_law_neat" = some (.ref T.f_Lneat)
  b_Lneat : Binds K T.d_Lneat ["_law_ends_here", "_law_ladder"] []
  F_Lraw_wanted : Fun K "_law_raw_wanted" "_law_raw_wanted" s_Lraw_wanted T.f_Lraw_wanted T.d_Lraw_wanted
  m_Lraw_wanted : mg "_law_raw_wanted" = some (.ref T.f_Lraw_wanted)
  b_Lraw_wanted : Binds K T.d_Lraw_wanted ["_law_hand_here", "_law_sides", "_law_ladder"] []
  F_Lneat_wanted : Fun K "_law_neat_wanted" "_law_neat_wanted" s_Lneat_wanted T.f_Lneat_wanted T.d_Lneat_wanted
  m_Lneat_wanted : mg "_law_neat_wanted" = some (.ref T.f_Lneat_wanted)
  b_Lneat_wanted : Binds K T.d_Lneat_wanted ["_law_lines", "_law_ladder"] []
  F_Ltruths : Fun K "_law_truths" "_law_truths" s_Ltruths T.f_Ltruths T.d_Ltruths
  m_Ltruths : mg "_law_truths" = some (.ref T.f_Ltruths)
  b_Ltruths : Binds K T.d_Ltruths ["_law_hand_here"] []
  F_Lgoal_facts : Fun K "_law_goal_facts" "_law_goal_facts" s_Lgoal_facts T.f_Lgoal_facts T.d_Lgoal_facts
  m_Lgoal_facts : mg "_law_goal_facts" = some (.ref T.f_Lgoal_facts)
  b_Lgoal_facts : Binds K T.d_Lgoal_facts ["_law_goals", "_law_ladder", "_law_wanted", "_law_known"] []
  F_Lorder : Fun K "_law_order" "_law_order" s_Lorder T.f_Lorder T.d_Lorder
  m_Lorder : mg "_law_order" = some (.ref T.f_Lorder)
  b_Lorder : Binds K T.d_Lorder ["_law_hand_here", "_law_many"] []
  F_Llot : Fun K "_law_lot" "_law_lot" s_Llot T.f_Llot T.d_Llot
  m_Llot : mg "_law_lot" = some (.ref T.f_Llot)
  b_Llot : Binds K T.d_Llot ["_law_hand_here", "_law_many"] []
  F_Lkept : Fun K "_law_kept" "_law_kept" s_Lkept T.f_Lkept T.d_Lkept
  m_Lkept : mg "_law_kept" = some (.ref T.f_Lkept)
  b_Lkept : Binds K T.d_Lkept ["_law_goals", "_law_east_lot", "_law_west_lot"] []
  F_Lrenumbered : Fun K "_law_renumbered" "_law_renumbered" s_Lrenumbered T.f_Lrenumbered T.d_Lrenumbered
  m_Lrenumbered : mg "_law_renumbered" = some (.ref T.f_Lrenumbered)
  b_Lrenumbered : Binds K T.d_Lrenumbered ["_law_goals", "_law_side", "_law_order_here"] []
  F_Lraised : Fun K "_law_raised" "_law_raised" s_Lraised T.f_Lraised T.d_Lraised
  m_Lraised : mg "_law_raised" = some (.ref T.f_Lraised)
  b_Lraised : Binds K T.d_Lraised ["_law_goals", "_law_by"] []
  F_Lwithout : Fun K "_law_without" "_law_without" s_Lwithout T.f_Lwithout T.d_Lwithout
  m_Lwithout : mg "_law_without" = some (.ref T.f_Lwithout)
  b_Lwithout : Binds K T.d_Lwithout ["_law_goals"] []
  F_Lended : Fun K "_law_ended" "_law_ended" s_Lended T.f_Lended T.d_Lended
  m_Lended : mg "_law_ended" = some (.ref T.f_Lended)
  b_Lended : Binds K T.d_Lended ["_law_goals", "_law_couple", "_law_end"] []
  F_Lall : Fun K "_law_all" "_law_all" s_Lall T.f_Lall T.d_Lall
  m_Lall : mg "_law_all" = some (.ref T.f_Lall)
  b_Lall : Binds K T.d_Lall ["_law_sides", "_law_ladder", "_law_knows"] []
  F_Lcut_right : Fun K "_law_cut_right" "_law_cut_right" s_Lcut_right T.f_Lcut_right T.d_Lcut_right
  m_Lcut_right : mg "_law_cut_right" = some (.ref T.f_Lcut_right)
  b_Lcut_right : Binds K T.d_Lcut_right ["_law_hand_here", "_law_goals", "_law_sides", "_law_one"] []
  F_Lraise_right : Fun K "_law_raise_right" "_law_raise_right" s_Lraise_right T.f_Lraise_right T.d_Lraise_right
  m_Lraise_right : mg "_law_raise_right" = some (.ref T.f_Lraise_right)
  b_Lraise_right : Binds K T.d_Lraise_right ["_law_goals", "_law_one"] []
  F_law : Fun K "law" "law" s_law T.f_law T.d_law
  m_law : mg "law" = some (.ref T.f_law)
  b_law : Binds K T.d_law ["_law_script"] []
  m_CallError : mg "CallError" = some (.ref T.C_CallError)
  e_CallError : Jv.ExcP K T.C_CallError
  m_BadGoals : mg "BadGoals" = some (.ref T.C_BadGoals)
  x_BadGoals : Jv.ExcI K T.C_BadGoals T.f_BadGoalsu_initu
  m_BadCouple : mg "BadCouple" = some (.ref T.C_BadCouple)
  e_BadCouple : Jv.ExcP K T.C_BadCouple
  m_BadLot : mg "BadLot" = some (.ref T.C_BadLot)
  x_BadLot : Jv.ExcI K T.C_BadLot T.f_BadLotu_initu
  m_BadSide : mg "BadSide" = some (.ref T.C_BadSide)
  e_BadSide : Jv.ExcP K T.C_BadSide
  m_BadEnd : mg "BadEnd" = some (.ref T.C_BadEnd)
  e_BadEnd : Jv.ExcP K T.C_BadEnd
  m_Goals : mg "Goals" = some (.ref T.C_Goals)
  o_Goals : Cls K T.C_Goals
  k_Goals : Mk K T.C_Goals T.f_Goalsu_initu
  h_Goalsu_equ : Meth K T.C_Goals "__eq__" T.f_Goalsu_equ
  h_Goals_kept : Meth K T.C_Goals "kept" T.f_Goals_kept
  h_Goals_renumbered : Meth K T.C_Goals "renumbered" T.f_Goals_renumbered
  h_Goals_raised : Meth K T.C_Goals "raised" T.f_Goals_raised
  h_Goals_without_foes : Meth K T.C_Goals "without_foes" T.f_Goals_without_foes
  h_Goals_with_end : Meth K T.C_Goals "with_end" T.f_Goals_with_end
  s_Goals_all_wanted : Jv.SMet K T.C_Goals (.type "type") "all_wanted" T.p_Goals_all_wanted T.f_Goals_all_wanted
  n_Goals_ladder : NoAttr K T.C_Goals "ladder"
  n_Goals_wanted : NoAttr K T.C_Goals "wanted"
  n_Goals_knows : NoAttr K T.C_Goals "knows"
  n_Goals_sides : NoAttr K T.C_Goals "sides"
  z_ValueError : mg "ValueError" = none
  z_abs : mg "abs" = none
  z_all : mg "all" = none
  z_any : mg "any" = none
  z_bool : mg "bool" = none
  z_enumerate : mg "enumerate" = none
  z_int : mg "int" = none
  z_isinstance : mg "isinstance" = none
  z_len : mg "len" = none
  z_list : mg "list" = none
  z_min : mg "min" = none
  z_range : mg "range" = none
  z_set : mg "set" = none
  z_sorted : mg "sorted" = none
  z_staticmethod : mg "staticmethod" = none
  z_tuple : mg "tuple" = none
  c_EAST : mg "EAST" = some (.int (0) T.t_EAST)
  c_WEST : mg "WEST" = some (.int (1) T.t_WEST)
  c_LADDER_MOST : mg "LADDER_MOST" = some (.int (6) T.t_LADDER_MOST)
  c_KINDS_MOST : mg "KINDS_MOST" = some (.int (6) T.t_KINDS_MOST)
  c_COUPLES_MOST : mg "COUPLES_MOST" = some (.int (12) T.t_COUPLES_MOST)
  n_BadGoals_what : PySem.W.findIn K (.ref T.C_BadGoals) "what" = some none
  n_BadLot_side : PySem.W.findIn K (.ref T.C_BadLot) "side" = some none
  u_BadLot_BadSide : PySem.W.subIn K (.ref T.C_BadLot) (.ref T.C_BadSide) = some false
  u_BadEnd_BadCouple : PySem.W.subIn K (.ref T.C_BadEnd) (.ref T.C_BadCouple) = some false
end K04

namespace K04
open PySem PySem.Spec PyProof.Rows L2
/-! ### the law's draws: any number below the bound may come -/
def sp_Lmix : Sp := fun vs H Q _ => ∃ n t : Int, vs = [.int n, .int t] ∧ (0 ≤ n ∧ n < 2147483648 ∧ 0 ≤ t ∧ t ≤ 1000) ∧ ∀ r : Int, 0 ≤ r → r < 134217728 → Q (.int r) H
theorem mix_end (z : Int) : 0 ≤ z % 2147483563 / 16 ∧ z % 2147483563 / 16 < 134217728 := by omega
section
variable {P : Program} {w : World} {K : PySem.W.Frag} {mg : Str → Option Value} {base : Heap}
theorem ok_Lmix (T : Tx) (O : Ok K mg T) : FnOk P w K mg base CX0 1 T.f_Lmix T.d_Lmix ["_law_number", "_law_turn"] sp_Lmix := by
  refine O.F_Lmix.ok sc_Lmix (fun vs H Q E h => by obtain ⟨n, t, rfl, _⟩ := h; rfl) (fun cdv A outer s H vs Q E hr h => ?_)
  obtain ⟨n, t, rfl, ⟨h1, h2, h3, h4⟩, q⟩ := h
  refine ⟨_, (pss_cons (ps_set (i := 2) sc_Lmix.nd rfl (Or.inl rfl) (pe_op op_mod (pe_callTy (r := Jv.rInt) Jv.cr_int (by rfl) O.z_int (by decide +kernel) (pa_cons (pe_op op_add (pe_op op_add (pe_op op_mul (pv 0) pe_int) (pe_op op_mul (pv 1) pe_int)) pe_int) pa_nil)) pe_int))
  (pss_cons (ps_set (i := 3) sc_Lmix.nd rfl (Or.inl rfl) (pe_op op_mod (pe_callTy (r := Jv.rInt) Jv.cr_int (by rfl) O.z_int (by decide +kernel) (pa_cons (pe_op op_add (pe_op op_add (pe_op op_mul (pv 2) (pv 2)) (pe_op op_mul (pe_op op_fdivW (pv 2) pe_int) pe_int)) (pe_op op_mul (pv 1) pe_int)) pa_nil)) pe_int))
  (pss_one (ps_ret (pe_op op_fdivW (pe_op op_mod (pe_callTy (r := Jv.rInt) Jv.cr_int (by rfl) O.z_int (by decide +kernel) (pa_cons (pe_op op_add (pe_op op_fdivW (pe_op op_mul (pv 3) (pv 3)) pe_int) (pv 2)) pa_nil)) pe_int) pe_int))))), ?_⟩
  walk_at "r"
  exact q _ (mix_end _).1 (mix_end _).2
end
end K04

namespace Jv
open PySem PySem.Spec PyProof.Rows L2
/-! ### the hand: numbers still to be used, a place, a rest, a total -/
structure HandAt (H : Hp) (p l : Addr) (ns : List Int) (k c t : Int) : Prop where
  hp : H p = some (.lst [.ref l, .int k, .int c, .int t])
  hl : H l = some (.lst (ns.map V.int))
  nn : ∀ n ∈ ns, 0 ≤ n
  few : ns.length ≤ 63
  bd : 0 ≤ k ∧ k ≤ ns.length ∧ 0 ≤ c ∧ 0 ≤ t ∧ t < 2147483629
def Hand (H : Hp) (p l : Addr) : Prop := ∃ ns k c t, HandAt H p l ns k c t
theorem HandAt.ne {H : Hp} {p l : Addr} {ns : List Int} {k c t : Int} (h : HandAt H p l ns k c t) : l ≠ p := fun e => by
  have q := h.hp
  rw [← e, h.hl] at q
  have q2 := HO.lst.inj (Option.some.inj q)
  cases ns with
  | nil => cases q2
  | cons a r => cases q2
/-- all but what stands at p is as it was -/
def Kp (p : Addr) (H H' : Hp) : Prop := ∀ b o, b ≠ p → H b = some o → H' b = some o
theorem Kp.refl {p : Addr} {H : Hp} : Kp p H H := fun _ _ _ e => e
theorem Kp.trans {p : Addr} {H H1 H2 : Hp} (a : Kp p H H1) (b : Kp p H1 H2) : Kp p H H2 := fun c o n e => b c o n (a c o n e)
theorem Kp.same {p : Addr} {H H' : Hp} (a : Same H H') : Kp p H H' := fun c o _ e => a c o e
theorem Kp.upd {p : Addr} {H : Hp} {o : HO} : Kp p H (upd H p o) := fun c u n e => by rw [upd_ne n]; exact e
theorem Kp.new {p q : Addr} {H : Hp} {o : HO} (n : H q = none) : Kp p H (L2.upd H q o) := Kp.same (same_new n)
theorem Hand.same {H H' : Hp} {p l : Addr} (h : Hand H p l) (s : Same H H') : Hand H' p l := by
  obtain ⟨ns, k, c, t, h⟩ := h
  exact ⟨ns, k, c, t, s _ _ h.hp, s _ _ h.hl, h.nn, h.few, h.bd⟩
theorem Hand.at {H : Hp} {p l : Addr} (h : Hand H p l) : ∃ o, H p = some o := by
  obtain ⟨ns, k, c, t, h⟩ := h
  exact ⟨_, h.hp⟩
theorem Hand.set {H : Hp} {p l : Addr} {ns : List Int} {k c t k' c' t' : Int} (h : HandAt H p l ns k c t) (b : 0 ≤ k' ∧ k' ≤ ns.length ∧ 0 ≤ c' ∧ 0 ≤ t' ∧ t' < 2147483629) :
    HandAt (upd H p (.lst [.ref l, .int k', .int c', .int t'])) p l ns k' c' t' :=
  ⟨upd_same, by rw [upd_ne h.ne]; exact h.hl, h.nn, h.few, b⟩
end Jv
namespace K04
open PySem PySem.Spec PyProof.Rows L2
def sp_Lhand (K : PySem.W.Frag) : Sp := fun vs H Q _ => ∃ (a : Addr) (ns : List Int), vs = [.ref a] ∧ SqL K H a (ns.map V.int) ∧ ns.length ≤ 63 ∧ ∀ p l H', Same H H' → H p = none → Jv.Hand H' p l → Q (.ref p) H'
section
variable {P : Program} {w : World} {K : PySem.W.Frag} {mg : Str → Option Value} {base : Heap}
theorem ok_Lhand (T : Tx) (O : Ok K mg T) : FnOk P w K mg base CX0 1 T.f_Lhand T.d_Lhand ["_law_script"] (sp_Lhand K) := by
  refine O.F_Lhand.ok sc_Lhand (fun vs H Q E h => by obtain ⟨a, ns, rfl, _⟩ := h; rfl) (fun cdv A outer s H vs Q E hr h => ?_)
  obtain ⟨a, ns, rfl, hS, few, q⟩ := h
  refine ⟨_, (pss_cons (ps_set (i := 1) sc_Lhand.nd rfl (Or.inl rfl) pe_int)
  (pss_cons (ps_for PassesOwn.never rfl (show PI _ _ _ (iEnum K _) from pi_enum (by rfl) O.z_enumerate (pa_cons (pv 0) pa_nil)) (pg_tup rfl (pgs_cons (pg_name (i := 2) sc_Lhand.nd rfl (Or.inl rfl)) (pgs_cons (pg_name (i := 3) sc_Lhand.nd rfl (Or.inl rfl)) pgs_nil))) (pss_one (ps_set (i := 1) sc_Lhand.nd rfl (Or.inl rfl) (pe_op op_mod (pe_callTy (r := Jv.rInt) Jv.cr_int (by rfl) O.z_int (by decide +kernel) (pa_cons (pe_op op_add (pe_op op_mul (pv 1) pe_int) (pe_op op_mul (pe_callTy (r := Jv.rInt) Jv.cr_int (by rfl) O.z_int (by decide +kernel) (pa_cons (pv 3) pa_nil)) (pe_op op_add (pv 2) pe_int))) pa_nil)) pe_int))))
  (pss_one (ps_ret (pe_lst (pa_cons (pe_lc (own := [("_law_cell", 3)]) (by rfl) sc_Lhand.nd (show PI _ _ _ (iList K _) from pi_list (pv 0)) (blkOk_by (own := [("_law_cell", 3)]) (N := ["_law_script", "_law_total", "_law_k", "_law_cell"]) (sc := defScope s_Lhand) (scope := ({ kind := .function, names := [(".0", .local), ("_law_cell", .local), ("abs", .globalImplicit), ("int", .globalImplicit)], isGenerator := false, isCoroutine := false } : Scope)) (by decide +kernel)) (fun _ _ _ _ _ => (pg_name (i := 3) sc_Lhand.nd rfl (Or.inl rfl))) (fun _ _ _ _ _ => pts_nil) (fun _ _ _ _ _ => (pe_callB (r := Jv.rAbs) Jv.cr_abs (by rfl) O.z_abs (by decide +kernel) (pa_cons (pe_callTy (r := Jv.rInt) Jv.cr_int (by rfl) O.z_int (by decide +kernel) (pa_cons (pv 3) pa_nil)) pa_nil)))) (pa_cons pe_int (pa_cons pe_int (pa_cons (pv 1) pa_nil))))))))), ?_⟩
  walk_at "r"
  refine ⟨_, _, rfl, hS, ?_⟩
  refine for_it (walk_enum (K := K) (a := a) (xs := ns.map V.int)) (fun i σ H' => ∃ y2 y3 tot, σ = [some (.ref a), some (.int tot), y2, y3] ∧ (0 ≤ tot ∧ tot < 2147483629) ∧ Same H H') ⟨_, _, 0, rfl, by decide, fun _ _ e => e⟩ (fun i σ H' _ ⟨_, _, _, _, _, sm⟩ => sm.seq hS) ?_ ?_
  · rintro i x σ H1 H2 hi ⟨y2, y3, tot, rfl, hb, sm⟩ ⟨p, x1, x2, rfl, hp, rfl, hx, hy⟩
    cases hx
    obtain ⟨z, hz, rfl⟩ := Jv.map_at (show (ns.map V.int)[i]? = some x2 from hy)
    rw [List.length_map] at hi
    walk_at "r"
    exact ⟨_, _, _, rfl, by omega, sm.trans (Jv.same_new hp)⟩
  · rintro σ H' ⟨y2, y3, tot, rfl, hb, sm⟩
    walk_at "r"
    refine ⟨_, rfl, _, rfl, ⟨_, sm.seq hS⟩, fun p hp => ?_⟩
    refine lc_it (walk_list (K := K) (a := a) (xs := ns.map V.int)) (fun i H1 => ∃ zs : List Int, Same H H1 ∧ H1 p = some (.lst (zs.map V.int)) ∧ zs.length = i ∧ ∀ z ∈ zs, 0 ≤ z) ⟨[], sm.trans (Jv.same_new hp), upd_same, rfl, by simp⟩ (fun i H1 _ ⟨_, s1, _⟩ => s1.seq hS) ?_ ?_
    · rintro i x H1 H2 hi ⟨zs, s1, e1, hl, nn⟩ ⟨rfl, hx⟩
      obtain ⟨z, hz, rfl⟩ := Jv.map_at hx
      rw [List.length_map] at hi
      walk_at "r"
      refine ⟨zs.map V.int, e1, ?_, zs ++ [if z < 0 then -z else z], ?_, ?_, ?_, ?_⟩
      · rw [List.length_map, hl]; exact Jv.small_lt (by omega)
      · intro b o e; exact Jv.kpO (s1 b o e) (ne_of_none (sm b o e) hp)
      · rw [upd_same, List.map_append]; rfl
      · rw [List.length_append, hl]; rfl
      · intro y hy
        rcases List.mem_append.mp hy with hy | hy
        · exact nn y hy
        · rw [List.mem_singleton.mp hy]; split <;> omega
    · rintro H1 ⟨zs, s1, e1, hl, nn⟩
      walk_at "r"
      intro p2 hp2
      rw [List.length_map] at hl
      exact q p2 p _ (s1.trans (Jv.same_new hp2)) (s1.free hp2) ⟨zs, 0, 0, tot, upd_same, Jv.kp e1 hp2, nn, by omega, by omega⟩
end
end K04

namespace K04
open PySem PySem.Spec PyProof.Rows L2
def sp_Ldraw : Sp := fun vs H Q _ => ∃ (p l : Addr) (m : Int), vs = [.ref p, .int m] ∧ Jv.Hand H p l ∧ (0 < m ∧ m.natAbs.log2 < 9000) ∧ ∀ r H', 0 ≤ r → r < m → Jv.Kp p H H' → Jv.Hand H' p l → Q (.int r) H'
section
variable {P : Program} {w : World} {K : PySem.W.Frag} {mg : Str → Option Value} {base : Heap}
theorem ok_Ldraw (T : Tx) (O : Ok K mg T) : FnOk P w K mg base CX0 2 T.f_Ldraw T.d_Ldraw ["_law_hand_here", "_law_many"] sp_Ldraw := by
  refine O.F_Ldraw.ok sc_Ldraw (fun vs H Q E h => by obtain ⟨_, _, _, rfl, _⟩ := h; rfl) (fun cdv A outer s H vs Q E hr h => ?_)
  obtain ⟨p, l, m, rfl, ⟨ns, k, c, t, hA⟩, ⟨m0, m1⟩, q⟩ := h
  obtain ⟨hp, hl, nn, few, b1, b2, b3, b4, b5⟩ := id hA
  have nlp := hA.ne
  have e0 : ∀ z : Int, 0 ≤ z % m := fun z => Int.emod_nonneg _ (by omega)
  have e1 : ∀ z : Int, z % m < m := fun z => Int.emod_lt_of_pos _ m0
  refine ⟨_, (C8.pss_cut (ps_if (PW.pt (pw_and (pt_cmpR op_eq (pe_ix (r := rIxL K) ix_list (pv 0) pe_int (fun _ _ => rfl)) pe_int (nomark _)) (pw_and1 (pt_cmpR op_lt (pe_ix (r := rIxL K) ix_list (pv 0) pe_int (fun _ _ => rfl)) (pe_callB (r := Jv.rLenK K) Jv.cr_len (by rfl) O.z_len (by decide +kernel) (pa_cons (pe_ix (r := rIxL K) ix_list (pv 0) pe_int (fun _ _ => rfl)) pa_nil)) (nomark _))))) (pss_cons (ps_set (i := 2) sc_Ldraw.nd rfl (Or.inl rfl) (pe_ix (r := rIxL K) ix_list (pe_ix (r := rIxL K) ix_list (pv 0) pe_int (fun _ _ => rfl)) (pe_ix (r := rIxL K) ix_list (pv 0) pe_int (fun _ _ => rfl)) (fun _ _ => rfl)))
  (pss_cons (ps_asg (pe_op op_add (pe_ix (r := rIxL K) ix_list (pv 0) pe_int (fun _ _ => rfl)) pe_int) (pg_sub (pv 0) pe_int set_list))
  (pss_cons (ps_if (pt_cmpR op_lt (pv 2) (pe_op op_pow pe_int pe_int) (nomark _)) (pss_one (ps_ret (pe_op op_mod (pe_callTy (r := Jv.rInt) Jv.cr_int (by rfl) O.z_int (by decide +kernel) (pa_cons (pe_call (ok_Lmix T O) (hr.mono (by decide)) (by rfl) O.m_Lmix O.F_Lmix.kp O.b_Lmix .nil pass0 (pa_cons (pe_op op_mod (pe_callTy (r := Jv.rInt) Jv.cr_int (by rfl) O.z_int (by decide +kernel) (pa_cons (pv 2) pa_nil)) pe_int) (pa_cons (pe_ix (r := rIxL K) ix_list (pv 0) pe_int (fun _ _ => rfl)) pa_nil))) pa_nil)) (pv 1)))) pss_nil)
  (pss_one (ps_asg (pv 2) (pg_sub (pv 0) pe_int set_list)))))) pss_nil)
  (pss_cons (ps_if (pt_cmpR op_gt (pe_ix (r := rIxL K) ix_list (pv 0) pe_int (fun _ _ => rfl)) pe_int (nomark _)) (pss_cons (ps_set (i := 3) sc_Ldraw.nd rfl (Or.inl rfl) (pe_ix (r := rIxL K) ix_list (pv 0) pe_int (fun _ _ => rfl)))
  (pss_cons (ps_asg (pe_op op_fdivW (pv 3) (pv 1)) (pg_sub (pv 0) pe_int set_list))
  (pss_one (ps_ret (pe_op op_mod (pe_callTy (r := Jv.rInt) Jv.cr_int (by rfl) O.z_int (by decide +kernel) (pa_cons (pv 3) pa_nil)) (pv 1)))))) pss_nil)
  (pss_cons (ps_asg (pe_op op_mod (pe_callTy (r := Jv.rInt) Jv.cr_int (by rfl) O.z_int (by decide +kernel) (pa_cons (pe_op op_add (pe_ix (r := rIxL K) ix_list (pv 0) pe_int (fun _ _ => rfl)) pe_int) pa_nil)) pe_int) (pg_sub (pv 0) pe_int set_list))
  (pss_one (ps_ret (pe_op op_mod (pe_callTy (r := Jv.rInt) Jv.cr_int (by rfl) O.z_int (by decide +kernel) (pa_cons (pe_call (ok_Lmix T O) (hr.mono (by decide)) (by rfl) O.m_Lmix O.F_Lmix.kp O.b_Lmix .nil pass0 (pa_cons (pe_ix (r := rIxL K) ix_list (pv 0) pe_int (fun _ _ => rfl)) (pa_cons (pe_ix (r := rIxL K) ix_list (pv 0) pe_int (fun _ _ => rfl)) pa_nil))) pa_nil)) (pv 1))))))), ?_⟩
  refine ⟨fun σ' H' => ∃ k c t y2 y3, σ' = [some (.ref p), some (.int m), y2, y3] ∧ Jv.HandAt H' p l ns k c t ∧ Jv.Kp p H H', ?_, ?_⟩
  · walk_at "r"
    refine Jv.r_decI (fun hc => ?_) (fun hc => ?_)
    · walk_at "r"
      refine Jv.r_dec (fun hk => ?_) (fun hk => ?_)
      · rw [List.length_map] at hk
        have hk2 : k.toNat < ns.length := by omega
        have at1 : atI (ns.map V.int) k = some (.int ns[k.toNat]) := Jv.at_i b1 (Jv.map_get hk2)
        have n0 := nn ns[k.toNat] (List.getElem_mem _)
        generalize ns[k.toNat] = z at at1 n0
        walk_at "r"
        refine' Jv.r_ixL ?hs at1 ?_
        case hs => walk_at "sq"
        walk_at "r"
        refine Jv.r_dec (fun hz => ?_) (fun hz => ?_)
        · walk_at "r"
          refine ⟨_, _, rfl, ⟨by omega, by omega, by omega, by omega⟩, fun r h1 h2 => ?_⟩
          walk_at "r"
          exact q _ _ (e0 _) (e1 _) Jv.Kp.upd ⟨_, _, _, _, Jv.Hand.set hA ⟨by omega, by omega, b3, b4, b5⟩⟩
        · walk_at "r"
          exact ⟨k + 1, z, t, _, _, rfl, Jv.Hand.set (Jv.Hand.set hA ⟨by omega, by omega, b3, b4, b5⟩) ⟨by omega, by omega, n0, b4, b5⟩, Jv.Kp.upd.trans Jv.Kp.upd⟩
      · walk_at "r"
        exact ⟨k, c, t, _, _, rfl, hA, Jv.Kp.refl⟩
    · walk_at "r"
      exact ⟨k, c, t, _, _, rfl, hA, Jv.Kp.refl⟩
  · rintro σ' H' ⟨k, c, t, y2, y3, rfl, hB, kp⟩
    obtain ⟨hp, hl, nn, few, b1, b2, b3, b4, b5⟩ := id hB
    walk_at "r"
    refine Jv.r_dec (fun hc => ?_) (fun hc => ?_)
    · walk_at "r"
      refine q _ _ (e0 _) (e1 _) (kp.trans Jv.Kp.upd) ⟨_, _, _, _, Jv.Hand.set hB ⟨b1, b2, Int.ediv_nonneg b3 (by omega), b4, b5⟩⟩
    · walk_at "r"
      refine ⟨_, _, rfl, ⟨by omega, by omega, b1, by omega⟩, fun r h1 h2 => ?_⟩
      walk_at "r"
      exact q _ _ (e0 _) (e1 _) (kp.trans Jv.Kp.upd) ⟨_, _, _, _, Jv.Hand.set hB ⟨b1, b2, b3, by omega, by omega⟩⟩
end
end K04

namespace K04
open PySem PySem.Spec PyProof.Rows L2
def sp_Lis : Sp := fun vs H Q _ => ∃ a b, vs = [.bl a, .bl b] ∧ Q (.bl (decide (a = b))) H
def sp_Lwide_sides : Sp := fun vs H Q _ => ∃ h l, vs = [.ref h] ∧ Jv.Hand H h l ∧ ∀ r p q H', ((1 ≤ p ∧ p ≤ 6) ∧ (1 ≤ q ∧ q ≤ 6) ∧ p * q ≤ 12) → Jv.Kp h H H' → Jv.Hand H' h l → H' r = some (.tup [.int p, .int q]) → Q (.ref r) H'
theorem m_bound {p : Int} (h0 : 0 ≤ p) (h1 : p < 6) : 0 < (if 12 / (1 + p) < 6 then 12 / (1 + p) else 6) ∧ (if 12 / (1 + p) < 6 then 12 / (1 + p) else 6) < 2 ^ 200 := by
  have : p = 0 ∨ p = 1 ∨ p = 2 ∨ p = 3 ∨ p = 4 ∨ p = 5 := by omega
  rcases this with rfl | rfl | rfl | rfl | rfl | rfl <;> decide
theorem q_bound {p q : Int} (h0 : 0 ≤ p) (h1 : p < 6) (q0 : 0 ≤ q) (h : q < if 12 / (1 + p) < 6 then 12 / (1 + p) else 6) : (1 ≤ 1 + q ∧ 1 + q ≤ 6) ∧ (1 + p) * (1 + q) ≤ 12 ∧ (1 + q) * (1 + p) ≤ 12 := by
  have : p = 0 ∨ p = 1 ∨ p = 2 ∨ p = 3 ∨ p = 4 ∨ p = 5 := by omega
  rcases this with rfl | rfl | rfl | rfl | rfl | rfl <;> simp at h <;> omega
section
variable {P : Program} {w : World} {K : PySem.W.Frag} {mg : Str → Option Value} {base : Heap}
theorem ok_Lis (T : Tx) (O : Ok K mg T) : FnOk P w K mg base CX0 1 T.f_Lis T.d_Lis ["_law_thing", "_law_due"] sp_Lis := by
  refine O.F_Lis.ok sc_Lis (fun vs H Q E h => by obtain ⟨_, _, rfl, _⟩ := h; rfl) (fun cdv A outer s H vs Q E hr h => ?_)
  obtain ⟨a, b, rfl, k⟩ := h
  refine ⟨_, (pss_one (ps_ret (pe_and (pe_callB (r := rIsi K) call_isi (by rfl) O.z_isinstance (by decide +kernel) (pa_cons (pv 0) (pa_cons (pe_bltn (v := .ty "bool") (by rfl) O.z_bool (by decide +kernel) rfl) pa_nil))) (pe_one (pe_cmpR op_eq (pv 0) (pv 1) (nomark _)))))), ?_⟩
  walk_at "r"
  have e : decide (V.bl a = V.bl b) = decide (a = b) := by cases a <;> cases b <;> rfl
  rw [e]; exact k
theorem ok_Lwide_sides (T : Tx) (O : Ok K mg T) : FnOk P w K mg base CX0 3 T.f_Lwide_sides T.d_Lwide_sides ["_law_hand_here"] sp_Lwide_sides := by
  refine O.F_Lwide_sides.ok sc_Lwide_sides (fun vs H Q E h => by obtain ⟨_, _, rfl, _⟩ := h; rfl) (fun cdv A outer s H vs Q E hr h => ?_)
  obtain ⟨h, l, rfl, hh, k⟩ := h
  refine ⟨_, (pss_cons (ps_set (i := 1) sc_Lwide_sides.nd rfl (Or.inl rfl) (pe_op op_add pe_int (pe_call (ok_Ldraw T O) (hr.mono (by decide)) (by rfl) O.m_Ldraw O.F_Ldraw.kp O.b_Ldraw .nil pass0 (pa_cons (pv 0) (pa_cons pe_int pa_nil)))))
  (pss_cons (ps_set (i := 2) sc_Lwide_sides.nd rfl (Or.inl rfl) (pe_op op_add pe_int (pe_call (ok_Ldraw T O) (hr.mono (by decide)) (by rfl) O.m_Ldraw O.F_Ldraw.kp O.b_Ldraw .nil pass0 (pa_cons (pv 0) (pa_cons (pe_callB (r := Jv.rMin2) (call_min2 rfl) (by rfl) O.z_min (by decide +kernel) (pa_cons pe_int (pa_cons (pe_op op_fdivW pe_int (pv 1)) pa_nil))) pa_nil)))))
  (pss_one (ps_ret (pe_ifExp (pt_cmpR op_eq (pe_call (ok_Ldraw T O) (hr.mono (by decide)) (by rfl) O.m_Ldraw O.F_Ldraw.kp O.b_Ldraw .nil pass0 (pa_cons (pv 0) (pa_cons pe_int pa_nil))) pe_int (nomark _)) (pe_tup (pa_cons (pv 1) (pa_cons (pv 2) pa_nil))) (pe_ifExp (pt_cmpR op_gt (pv 2) pe_int (nomark _)) (pe_tup (pa_cons (pv 2) (pa_cons (pv 1) pa_nil))) (pe_tup (pa_cons (pv 1) (pa_cons (pv 2) pa_nil))))))))), ?_⟩
  walk_at "r"
  refine ⟨h, l, _, rfl, hh, ⟨by decide, Jv.log_small (by decide) (by decide)⟩, fun p H1 p0 p1 k1 h1 => ?_⟩
  walk_at "r"
  have mb := m_bound p0 p1
  refine ⟨h, l, _, rfl, h1, ⟨mb.1, Jv.log_small mb.1 mb.2⟩, fun q H2 q0 q1 k2 h2 => ?_⟩
  have qb := q_bound p0 p1 q0 q1
  walk_at "r"
  refine ⟨h, l, _, rfl, h2, ⟨by decide, Jv.log_small (by decide) (by decide)⟩, fun r H3 r0 r1 k3 h3 => ?_⟩
  have kk := (k1.trans k2).trans k3
  walk_at "r"
  refine Jv.r_decI (fun _ => ?_) (fun _ => ?_)
  · walk_at "r"
    intro t ht
    exact k t _ _ _ ⟨by omega, qb.1, qb.2.1⟩ (kk.trans (Jv.Kp.new ht)) (h3.same (Jv.same_new ht)) upd_same
  · walk_at "rr"
    intro t ht
    exact k t _ _ _ ⟨qb.1, by omega, qb.2.2⟩ (kk.trans (Jv.Kp.new ht)) (h3.same (Jv.same_new ht)) upd_same
end
end K04

namespace K04
open PySem PySem.Spec PyProof.Rows L2
def sp_Lorder : Sp := fun vs H Q _ => ∃ h l m, vs = [.ref h, .int m] ∧ Jv.Hand H h l ∧ (1 ≤ m ∧ m ≤ 40) ∧ ∀ (r : Addr) (ns : List Int) (H' : Hp), ns.Perm (Jv.rgI m.toNat) → H r = none → H' r = some (.lst (ns.map V.int)) → Jv.Kp h H H' → Jv.Hand H' h l → Q (.ref r) H'
section
variable {P : Program} {w : World} {K : PySem.W.Frag} {mg : Str → Option Value} {base : Heap}
theorem ok_Lorder (T : Tx) (O : Ok K mg T) : FnOk P w K mg base CX0 3 T.f_Lorder T.d_Lorder ["_law_hand_here", "_law_many"] sp_Lorder := by
  refine O.F_Lorder.ok sc_Lorder (fun vs H Q E h => by obtain ⟨_, _, _, rfl, _⟩ := h; rfl) (fun cdv A outer s H vs Q E hr h => ?_)
  obtain ⟨h, l, m, rfl, hh, ⟨m0, m1⟩, k⟩ := h
  refine ⟨_, (pss_cons (ps_set (i := 2) sc_Lorder.nd rfl (Or.inl rfl) (pe_listRg rfl (by rfl) O.z_list (prg_1 (by rfl) O.z_range (pv 1))))
  (pss_cons (ps_set (i := 3) sc_Lorder.nd rfl (Or.inl rfl) (pe_lst pa_nil))
  (pss_cons (ps_for PassesOwn.never rfl (pi_range1 (by rfl) O.z_range (pa_cons (pv 1) pa_nil)) (pg_name (i := 4) sc_Lorder.nd rfl (Or.inl rfl)) (pss_one (ps_expr (show PE _ _ (tBM K _ _ _ _) from pe_bm PySem.F.plainAttrs_list PySem.F.slot_list_append PySem.F.type_list_append mt_append (pv 3) (pa_cons (show PE _ _ (tBM K _ _ _ _) from pe_bm PySem.F.plainAttrs_list PySem.F.slot_list_pop PySem.F.type_list_pop mt_popAt (pv 2) (pa_cons (pe_call (ok_Ldraw T O) (hr.mono (by decide)) (by rfl) O.m_Ldraw O.F_Ldraw.kp O.b_Ldraw .nil pass0 (pa_cons (pv 0) (pa_cons (pe_callB (r := Jv.rLenK K) Jv.cr_len (by rfl) O.z_len (by decide +kernel) (pa_cons (pv 2) pa_nil)) pa_nil))) pa_nil)) pa_nil)))))
  (pss_one (ps_ret (pv 3)))))), ?_⟩
  walk_at "r"
  refine ⟨_, rfl, m, rfl, RgOk.of_le (by omega) (by omega) (by omega) (by omega), fun a ha => ?_⟩
  walk_at "r"
  rw [Jv.rgV0]
  intro b hb
  walk_at "r"
  refine ⟨m, rfl, by omega, by omega, ?_⟩
  have hbH : H b = none := (Jv.same_new ha).free hb
  obtain ⟨ho, hho⟩ := hh.at
  have nah : a ≠ h := (ne_of_none hho ha).symm
  have nbh : b ≠ h := (ne_of_none hho hbH).symm
  have nba : b ≠ a := fun e => by rw [e, upd_same] at hb; cases hb
  have sab := (Jv.same_new (u := .lst ((Jv.rgI m.toNat).map V.int)) ha).trans (Jv.same_new (u := .lst []) hb)
  refine for_range (lo := 0) (n := m.toNat) (fun i σ H1 => ∃ y4 ns ms, σ = [some (.ref h), some (.int m), some (.ref a), some (.ref b), y4] ∧ Jv.Kp h H H1 ∧ Jv.Hand H1 h l ∧ H1 a = some (.lst (ms.map V.int)) ∧ H1 b = some (.lst (ns.map V.int)) ∧ (ns ++ ms).Perm (Jv.rgI m.toNat) ∧ ms.length + i = m.toNat ∧ ns.length = i) ⟨_, [], Jv.rgI m.toNat, rfl, Jv.Kp.same sab, hh.same sab, Jv.kp upd_same hb, upd_same, .refl _, by simp [Jv.rgI], rfl⟩ ?_ ?_
  · rintro i σ H1 hi ⟨y4, ns, ms, rfl, kp, h1, ea, eb, pm, le, ln⟩
    walk_at "r"
    rw [List.length_map]
    refine ⟨h, l, _, rfl, h1, ⟨by omega, Jv.log_small (by omega) (by omega)⟩, fun z H2 z0 z1 k2 h2 => ?_⟩
    have hz : z.toNat < ms.length := by omega
    have ea2 := k2 a _ nah ea
    have eb2 := k2 b _ nbh eb
    walk_at "r"
    refine Jv.r_popAt ea2 z0 (by omega) (Jv.map_get hz) ?_
    walk_at "r"
    refine Jv.r_app (by rw [upd_ne nba]; exact eb2) (by rw [List.length_map]; omega) ?_
    refine ⟨_, ns ++ [ms[z.toNat]], ms.eraseIdx z.toNat, rfl, ?_, ?_, ?_, ?_, (Jv.pop_perm (List.getElem?_eq_getElem hz)).trans pm, ?_, by rw [List.length_append, ln]; rfl⟩
    · intro c o nc hc
      have e2 := k2 c o nc (kp c o nc hc)
      have nca := ne_of_none hc ha
      have ncb := ne_of_none hc hbH
      rw [upd_ne ncb, upd_ne nca]; exact e2
    · obtain ⟨ns2, k3, c3, t3, hA⟩ := h2
      have la : l ≠ a := fun e => by
        have q := hA.hl
        rw [e, ea2] at q
        obtain ⟨ns0, k0, c0, t0, hA0⟩ := hh
        exact absurd hA0.hl (by rw [e, ha]; simp)
      have lb : l ≠ b := fun e => by
        obtain ⟨ns0, k0, c0, t0, hA0⟩ := hh
        exact absurd hA0.hl (by rw [e, hbH]; simp)
      exact ⟨ns2, k3, c3, t3, by rw [upd_ne nbh.symm, upd_ne nah.symm]; exact hA.hp, by rw [upd_ne lb, upd_ne la]; exact hA.hl, hA.nn, hA.few, hA.bd⟩
    · rw [upd_ne nba.symm, upd_same, Jv.erase_map]
    · rw [upd_same, List.map_append]; rfl
    · rw [List.length_eraseIdx_of_lt hz]; omega
  · rintro σ H1 ⟨y4, ns, ms, rfl, kp, h1, ea, eb, pm, le, ln⟩
    have em : ms = [] := List.eq_nil_of_length_eq_zero (by omega)
    subst em
    rw [List.append_nil] at pm
    walk_at "r"
    exact k b ns H1 pm hbH eb kp h1
end
end K04

namespace K04
open PySem PySem.Spec PyProof.Rows L2
/-! ### basics, of data -/
def sp_is_whole (K : PySem.W.Frag) : Sp := fun vs H Q _ => ∃ x d lo hi, vs = [x, lo, hi] ∧ Jv.Dv K H x d ∧ Jv.Bd lo ∧ Jv.Bd hi ∧ Q (.bl (Jv.wholeV x lo hi)) H
def sp_is_sequence (K : PySem.W.Frag) : Sp := fun vs H Q _ => ∃ x d, vs = [x] ∧ Jv.Dv K H x d ∧ ∀ H', Same H H' → Q (.bl (Jv.seqD d).isSome) H'
def sp_is_truth (K : PySem.W.Frag) : Sp := fun vs H Q _ => ∃ x d, vs = [x] ∧ Jv.Dv K H x d ∧ Q (.bl (Jv.boolD d)) H
def sp_are_sides (K : PySem.W.Frag) : Sp := fun vs H Q _ => ∃ x d, vs = [x] ∧ Jv.Dv K H x d ∧ ∀ H', Same H H' → Q (.bl (Jv.sidesD d)) H'
def sp_are_ends (K : PySem.W.Frag) : Sp := fun vs H Q _ => ∃ x d l, vs = [x, .int l] ∧ Jv.Dv K H x d ∧ Jv.few1 d ∧ ∀ H', Same H H' → Q (.bl (Jv.endsD l d)) H'
def sp_is_knowing (K : PySem.W.Frag) : Sp := fun vs H Q _ => ∃ x d, vs = [x] ∧ Jv.Dv K H x d ∧ ∀ H', Same H H' → Q (.bl (Jv.knowsD d)) H'
section
variable {P : Program} {w : World} {K : PySem.W.Frag} {mg : Str → Option Value} {base : Heap}
theorem ok_is_whole (T : Tx) (O : Ok K mg T) : FnOk P w K mg base CX0 1 T.f_is_whole T.d_is_whole ["thing", "low", "high"] (sp_is_whole K) := by
  refine O.F_is_whole.ok sc_is_whole (fun vs H Q E h => by obtain ⟨_, _, _, _, rfl, _⟩ := h; rfl) (fun cdv A outer s H vs Q E hr h => ?_)
  obtain ⟨x, d, lo, hi, rfl, hx, hlo, hhi, q⟩ := h
  refine ⟨_, (pss_cons (ps_if (PW.pt (pw_or (pt_val (pe_callB (r := rIsi K) call_isi (by rfl) O.z_isinstance (by decide +kernel) (pa_cons (pv 0) (pa_cons (pe_bltn (v := .ty "bool") (by rfl) O.z_bool (by decide +kernel) rfl) pa_nil)))) (pw_or1 (pt_not (pt_val (pe_callB (r := rIsi K) call_isi (by rfl) O.z_isinstance (by decide +kernel) (pa_cons (pv 0) (pa_cons (pe_bltn (v := .ty "int") (by rfl) O.z_int (by decide +kernel) rfl) pa_nil)))))))) (pss_one (ps_ret pe_bl)) pss_nil)
  (pss_cons (ps_if (PW.pt (pw_and (pt_cmpR op_notN (pv 1) pe_non (nomark _)) (pw_and1 (pt_cmpR op_lt (pv 0) (pv 1) (nomark _))))) (pss_one (ps_ret pe_bl)) pss_nil)
  (pss_one (ps_ret (pe_or (pe_cmpR op_isN (pv 2) pe_non (nomark _)) (pe_one (pe_cmpR op_le (pv 0) (pv 2) (nomark _)))))))), ?_⟩
  walk_at "r"
  have hx2 := hx
  cases hx2 with
  | int i =>
    rcases hlo with rfl | ⟨a, rfl⟩
    · rcases hhi with rfl | ⟨b, rfl⟩ <;> walk_at "r" <;> exact q
    · by_cases h : i < a
      · rw [Jv.wholeV_lo0 h] at q
        walk_at "rr" <;> exact q
      · rw [Jv.wholeV_lo1 h] at q
        rcases hhi with rfl | ⟨b, rfl⟩ <;> walk_at "rr" <;> exact q
  | _ => walk_at "r"; exact q
theorem ok_is_sequence (T : Tx) (O : Ok K mg T) : FnOk P w K mg base CX0 1 T.f_is_sequence T.d_is_sequence ["thing"] (sp_is_sequence K) := by
  refine O.F_is_sequence.ok sc_is_sequence (fun vs H Q E h => by obtain ⟨_, _, rfl, _⟩ := h; rfl) (fun cdv A outer s H vs Q E hr h => ?_)
  obtain ⟨x, d, rfl, hx, q⟩ := h
  refine ⟨_, (pss_one (ps_ret (pe_callB (r := rIsiT K) call_isiT (by rfl) O.z_isinstance (by decide +kernel) (pa_cons (pv 0) (pa_cons (pe_tup (pa_cons (pe_bltn (v := .ty "list") (by rfl) O.z_list (by decide +kernel) rfl) (pa_cons (pe_bltn (v := .ty "tuple") (by rfl) O.z_tuple (by decide +kernel) rfl) pa_nil))) pa_nil))))), ?_⟩
  walk_at "r"
  intro p hp
  have hx2 := hx.same (Jv.same_new (u := .tup [.ty "list", .ty "tuple"]) hp)
  walk_at "r"
  exact q _ (Jv.same_new hp)
theorem ok_is_truth (T : Tx) (O : Ok K mg T) : FnOk P w K mg base CX0 1 T.f_is_truth T.d_is_truth ["thing"] (sp_is_truth K) := by
  refine O.F_is_truth.ok sc_is_truth (fun vs H Q E h => by obtain ⟨_, _, rfl, _⟩ := h; rfl) (fun cdv A outer s H vs Q E hr h => ?_)
  obtain ⟨x, d, rfl, hx, q⟩ := h
  refine ⟨_, (pss_one (ps_ret (pe_or (pe_cmpR (r := Jv.rIsT) Jv.op_isT (pv 0) pe_bl (nomark _)) (pe_one (pe_cmpR (r := Jv.rIsT) Jv.op_isT (pv 0) pe_bl (nomark _)))))), ?_⟩
  rw [← Jv.boolD_iff hx] at q
  walk_at "r"
  refine ⟨_, rfl, ?_⟩
  walk_at "r"
  by_cases e : x = .bl true
  · rw [decide_eq_true e] at q ⊢
    walk_at "r"; exact q
  · rw [decide_eq_false e] at q ⊢
    walk_at "r"
    refine ⟨_, rfl, q⟩
theorem ok_are_sides (T : Tx) (O : Ok K mg T) : FnOk P w K mg base CX0 2 T.f_are_sides T.d_are_sides ["thing"] (sp_are_sides K) := by
  refine O.F_are_sides.ok sc_are_sides (fun vs H Q E h => by obtain ⟨_, _, rfl, _⟩ := h; rfl) (fun cdv A outer s H vs Q E hr h => ?_)
  obtain ⟨x, d, rfl, hx, q⟩ := h
  refine ⟨_, (pss_cons (ps_if (PW.pt (pw_or (pt_not (pt_val (pe_call (ok_is_sequence T O) (hr.mono (by decide)) (by rfl) O.m_is_sequence O.F_is_sequence.kp O.b_is_sequence .nil pass0 (pa_cons (pv 0) pa_nil)))) (pw_or1 (pt_cmpR op_ne (pe_callB (r := Jv.rLenK K) Jv.cr_len (by rfl) O.z_len (by decide +kernel) (pa_cons (pv 0) pa_nil)) pe_int (nomark _))))) (pss_one (ps_ret pe_bl)) pss_nil)
  (pss_cons (ps_if (pt_not (pt_val (pe_callB (r := rAll K) (cr_all rfl) (by rfl) O.z_all (by decide +kernel) (pa_cons (pe_lc (own := [("kinds", 1)]) (by rfl) sc_are_sides.nd (Jv.piOr (show PI _ _ _ (iList K _) from pi_list (pv 0)) (show PI _ _ _ (iTup K _) from pi_tup (pv 0))) (blkOk_by (own := [("kinds", 1)]) (N := ["thing", "kinds"]) (sc := defScope s_are_sides) (scope := ({ kind := .function, names := [(".0", .local), ("kinds", .local), ("is_whole", .globalImplicit), ("KINDS_MOST", .globalImplicit)], isGenerator := false, isCoroutine := false } : Scope)) (by decide +kernel)) (fun _ _ _ _ _ => (pg_name (i := 1) sc_are_sides.nd rfl (Or.inl rfl))) (fun _ _ _ _ _ => pts_nil) (fun _ _ _ _ _ => (pe_call (ok_is_whole T O) (hr.mono (by decide)) (by rfl) O.m_is_whole O.F_is_whole.kp O.b_is_whole .nil pass0 (pa_cons (pv 1) (pa_cons pe_int (pa_cons (pe_glob (v := .int (6)) (by rfl) O.c_KINDS_MOST ⟨_, rfl⟩) pa_nil)))))) pa_nil)))) (pss_one (ps_ret pe_bl)) pss_nil)
  (pss_one (ps_ret (pe_cmpR op_le (pe_op op_mul (pe_ix (r := rIx K) ix_seq (pv 0) (pe_glob (v := .int (0)) (by rfl) O.c_EAST ⟨_, rfl⟩) (fun _ _ => rfl)) (pe_ix (r := rIx K) ix_seq (pv 0) (pe_glob (v := .int (1)) (by rfl) O.c_WEST ⟨_, rfl⟩) (fun _ _ => rfl))) (pe_glob (v := .int (12)) (by rfl) O.c_COUPLES_MOST ⟨_, rfl⟩) (nomark _)))))), ?_⟩
  walk_at "r"
  refine ⟨_, _, rfl, hx, fun H1 s1 => ?_⟩
  walk_at "r"
  cases e : Jv.seqD d with
  | none =>
    have e2 : Jv.sidesD d = false := by unfold Jv.sidesD; rw [e]
    rw [e2] at q
    walk_at "r"; exact q _ s1
  | some ds =>
    obtain ⟨xs, sq0, al⟩ := hx.sk e
    have sq := sq0.same s1
    have al1 := al.same s1
    walk_at "r"
    refine sq.len ?_
    walk_at "r"
    refine Jv.r_ndecI (fun hl => ?_) (fun hl => ?_)
    · have e2 : Jv.sidesD d = false := by
        unfold Jv.sidesD; rw [e]
        split
        · rename_i p q e3; cases e3; rw [al.len] at hl; exact absurd rfl hl
        · rfl
      rw [e2] at q
      walk_at "r"; exact q _ s1
    · walk_at "r"
      obtain ⟨y, z, rfl⟩ : ∃ y z, xs = [y, z] := by
        match xs, hl with
        | [y, z], _ => exact ⟨y, z, rfl⟩
        | [], h => simp at h
        | [_], h => simp at h
        | _ :: _ :: _ :: r, h => simp at h; omega
      cases al1 with
      | cons h1 al1 =>
      cases al1 with
      | cons h2 al1 =>
      cases al1
      rename_i d1 d2
      refine Jv.lcK (j := 1) (i := 0) rfl sq (fun v => .bl (Jv.wholeV v (.int 1) (.int 6))) (by simp) (fun v H2 m s2 P hP => ?_) (fun D H2 s2 hD eD => ?_)
      · walk_at "r"
        rcases List.mem_cons.mp m with rfl | m
        · exact ⟨_, _, _, _, rfl, h1.same s2, .inr ⟨_, rfl⟩, .inr ⟨_, rfl⟩, hP _ (Same.refl _)⟩
        · rw [List.mem_singleton.mp m]
          rw [List.mem_singleton.mp m] at hP
          exact ⟨_, _, _, _, rfl, h2.same s2, .inr ⟨_, rfl⟩, .inr ⟨_, rfl⟩, hP _ (Same.refl _)⟩
      · walk_at "r"
        refine Jv.r_all (f := fun v => Jv.wholeV v (.int 1) (.int 6)) eD ?_
        walk_at "r"
        have es : Jv.sidesD d = (match [d1, d2] with | [.int p, .int q] => decide ((1 ≤ p ∧ p ≤ 6) ∧ (1 ≤ q ∧ q ≤ 6) ∧ p * q ≤ 12) | _ => false) := by
          unfold Jv.sidesD; rw [e]
          exact (show ∀ a b : PyData, (match (some [a, b] : Option (List PyData)) with | some [.int p, .int q] => decide ((1 ≤ p ∧ p ≤ 6) ∧ (1 ≤ q ∧ q ≤ 6) ∧ p * q ≤ 12) | _ => false) = (match [a, b] with | [.int p, .int q] => decide ((1 ≤ p ∧ p ≤ 6) ∧ (1 ≤ q ∧ q ≤ 6) ∧ p * q ≤ 12) | _ => false) from fun a b => by cases a <;> cases b <;> rfl) d1 d2
        cases eb : [y, z].all fun v => Jv.wholeV v (.int 1) (.int 6) with
        | false =>
          have e2 : Jv.sidesD d = false := by
            rw [es]
            split
            · rename_i p q e3
              cases e3
              cases h1; cases h2
              refine decide_eq_false fun hh => ?_
              have : ([V.int p, V.int q].all fun v => Jv.wholeV v (.int 1) (.int 6)) = true := by
                simp [Jv.wholeV, Jv.loOk, Jv.hiOk]; omega
              rw [this] at eb; cases eb
            · rfl
          rw [e2] at q
          walk_at "r"; exact q _ (s1.trans s2)
        | true =>
          rw [List.all_cons, List.all_cons, Bool.and_eq_true, Bool.and_eq_true] at eb
          obtain ⟨p, rfl, p1, p2⟩ := Jv.wholeV_int eb.1
          obtain ⟨r, rfl, r1, r2⟩ := Jv.wholeV_int eb.2.1
          cases h1; cases h2
          have e2 : Jv.sidesD d = decide (p * r ≤ 12) := by
            rw [es]
            exact decide_eq_decide.mpr ⟨fun h => h.2.2, fun h => ⟨⟨p1, p2⟩, ⟨r1, r2⟩, h⟩⟩
          rw [e2] at q
          walk_at "r"
          refine (sq.same s2).ix (v := .int p) rfl ?_
          walk_at "r"
          refine (sq.same s2).ix (v := .int r) rfl ?_
          walk_at "r"
          exact q _ (s1.trans s2)
end
end K04

namespace K04
open PySem PySem.Spec PyProof.Rows L2
/-! ### ends, truths, lines -/
theorem _root_.Jv.tru_lst {K : PySem.W.Frag} {H : Hp} {a : Addr} {xs : List V} (h : H a = some (.lst xs)) : TruV K (.ref a) H (!xs.isEmpty) := .inl ⟨xs, Jv.sqL_at h, rfl⟩
theorem _root_.Jv.rep_all {n : Nat} {ns : List Nat} : (n :: ns).map (fun (k : Nat) => (k : Int)) = List.replicate (ns.length + 1) (n : Int) ↔ ns.all (fun m => decide (m = n)) = true := by
  rw [List.all_eq_true, List.map_cons, List.replicate_succ, List.cons.injEq]
  constructor
  · rintro ⟨_, h⟩ m hm
    have h2 : ((m : Nat) : Int) ∈ ns.map (fun (k : Nat) => (k : Int)) := List.mem_map.mpr ⟨m, hm, rfl⟩
    rw [h] at h2
    have := List.eq_of_mem_replicate h2
    exact decide_eq_true (by omega)
  · intro h
    refine ⟨rfl, List.eq_replicate_iff.mpr ⟨by simp, fun b hb => ?_⟩⟩
    obtain ⟨m, hm, rfl⟩ := List.mem_map.mp hb
    rw [of_decide_eq_true (h m hm)]
theorem _root_.Jv.flat_one {n : Nat} {v : V} : (List.replicate n [v]).flatten = List.replicate n v := by
  induction n with
  | zero => rfl
  | succ n ih => rw [List.replicate_succ, List.flatten_cons, ih]; rfl

def sp_sides_of_lines (K : PySem.W.Frag) : Sp := fun vs H Q _ => ∃ x d, vs = [x] ∧ Jv.Dv K H x d ∧ Jv.few2 d ∧
  (Jv.linesD d = none → ∀ H', Same H H' → Q .non H') ∧ (∀ p q, Jv.linesD d = some (p, q) → ∀ t H', Same H H' → H' t = some (.tup [.int p, .int q]) → Q (.ref t) H')
section
variable {P : Program} {w : World} {K : PySem.W.Frag} {mg : Str → Option Value} {base : Heap}
theorem ok_are_ends (T : Tx) (O : Ok K mg T) : FnOk P w K mg base CX0 2 T.f_are_ends T.d_are_ends ["thing", "ladder"] (sp_are_ends K) := by
  refine O.F_are_ends.ok sc_are_ends (fun vs H Q E h => by obtain ⟨_, _, _, rfl, _⟩ := h; rfl) (fun cdv A outer s H vs Q E hr h => ?_)
  obtain ⟨x, d, l, rfl, hx, fw, q⟩ := h
  refine ⟨_, (pss_one (ps_ret (pe_and (pe_call (ok_is_sequence T O) (hr.mono (by decide)) (by rfl) O.m_is_sequence O.F_is_sequence.kp O.b_is_sequence .nil pass0 (pa_cons (pv 0) pa_nil)) (pe_and (pe_cmpR op_gt (pe_callB (r := Jv.rLenK K) Jv.cr_len (by rfl) O.z_len (by decide +kernel) (pa_cons (pv 0) pa_nil)) pe_int (nomark _)) (pe_one (pe_callB (r := rAll K) (cr_all rfl) (by rfl) O.z_all (by decide +kernel) (pa_cons (pe_lc (own := [("end", 2)]) (by rfl) sc_are_ends.nd (Jv.piOr (show PI _ _ _ (iList K _) from pi_list (pv 0)) (show PI _ _ _ (iTup K _) from pi_tup (pv 0))) (blkOk_by (own := [("end", 2)]) (N := ["thing", "ladder", "end"]) (sc := defScope s_are_ends) (scope := ({ kind := .function, names := [(".0", .local), ("end", .local), ("is_whole", .globalImplicit), ("ladder", .free)], isGenerator := false, isCoroutine := false } : Scope)) (by decide +kernel)) (fun _ _ _ _ _ => (pg_name (i := 2) sc_are_ends.nd rfl (Or.inl rfl))) (fun _ _ _ _ _ => pts_nil) (fun _ _ _ _ _ => (pe_call (ok_is_whole T O) (hr.mono (by decide)) (by rfl) O.m_is_whole O.F_is_whole.kp O.b_is_whole .nil pass0 (pa_cons (pv 2) (pa_cons (pe_un un_neg (pv 1)) (pa_cons (pv 1) pa_nil)))))) pa_nil))))))), ?_⟩
  walk_at "r"
  refine ⟨_, _, rfl, hx, fun H1 s1 => ?_⟩
  walk_at "r"
  cases e : Jv.seqD d with
  | none =>
    have e2 : Jv.endsD l d = false := by unfold Jv.endsD; rw [e]
    rw [e2] at q
    walk_at "r"; exact q _ s1
  | some ds =>
    have fw1 := fw ds e
    obtain ⟨xs, sq0, al⟩ := hx.sk e
    have sq := sq0.same s1
    have al1 := al.same s1
    have ll := al.len
    have e2 : Jv.endsD l d = (decide (0 < ds.length) && ds.all fun e => Jv.wholeD e (.int (-l)) (.int l)) := by unfold Jv.endsD; rw [e]
    rw [e2] at q
    walk_at "r"
    refine sq.len ?_
    walk_at "r"
    refine Jv.r_dec (fun h0 => ?_) (fun h0 => ?_)
    · rw [decide_eq_true (p := 0 < ds.length) (by omega), Bool.true_and] at q
      walk_at "r"
      refine Jv.lcS2 (K := K) (N := []) (j := 2) (i := 0) rfl sq .nil (ds.map fun e => .bool (Jv.wholeD e (.int (-l)) (.int l))) (by rw [List.length_map]; omega) (by omega) (fun i v e' D H2 hi hv he s2 hN hD P hP => ?_) (fun D ys H2 s2 hD eD dv _ => ?_)
      · walk_at "r"
        obtain ⟨e0, h0e, hv2⟩ := al1.at hv
        rw [List.getElem?_map, h0e] at he
        obtain rfl := Option.some.inj he
        refine ⟨_, _, _, _, rfl, hv2.same s2, .inr ⟨_, rfl⟩, .inr ⟨_, rfl⟩, ?_⟩
        rw [hv2.whole]
        exact hP _ _ (Same.refl _) (.bl _)
      · walk_at "r"
        rw [Jv.hide_nil, show (ds.map fun e => PyData.bool (Jv.wholeD e (.int (-l)) (.int l))) = (ds.map fun e => Jv.wholeD e (.int (-l)) (.int l)).map PyData.bool by rw [List.map_map]; rfl] at dv
        rw [Jv.dv_bools dv] at eD
        refine ⟨D, _, rfl, Jv.sqL_at eD, ?_⟩
        rw [List.all_map]
        exact q _ (s1.trans s2)
    · rw [decide_eq_false (p := 0 < ds.length) (by omega), Bool.false_and] at q
      walk_at "r"
      exact q _ s1
theorem ok_is_knowing (T : Tx) (O : Ok K mg T) : FnOk P w K mg base CX0 2 T.f_is_knowing T.d_is_knowing ["thing"] (sp_is_knowing K) := by
  refine O.F_is_knowing.ok sc_is_knowing (fun vs H Q E h => by obtain ⟨_, _, rfl, _⟩ := h; rfl) (fun cdv A outer s H vs Q E hr h => ?_)
  obtain ⟨x, d, rfl, hx, q⟩ := h
  refine ⟨_, (pss_one (ps_ret (pe_and (pe_call (ok_is_sequence T O) (hr.mono (by decide)) (by rfl) O.m_is_sequence O.F_is_sequence.kp O.b_is_sequence .nil pass0 (pa_cons (pv 0) pa_nil)) (pe_and (pe_cmpR op_eq (pe_callB (r := Jv.rLenK K) Jv.cr_len (by rfl) O.z_len (by decide +kernel) (pa_cons (pv 0) pa_nil)) pe_int (nomark _)) (pe_one (pe_callB (r := rAll K) (cr_all rfl) (by rfl) O.z_all (by decide +kernel) (pa_cons (pe_lc (own := [("part", 1)]) (by rfl) sc_is_knowing.nd (Jv.piOr (show PI _ _ _ (iList K _) from pi_list (pv 0)) (show PI _ _ _ (iTup K _) from pi_tup (pv 0))) (blkOk_by (own := [("part", 1)]) (N := ["thing", "part"]) (sc := defScope s_is_knowing) (scope := ({ kind := .function, names := [(".0", .local), ("part", .local), ("is_truth", .globalImplicit)], isGenerator := false, isCoroutine := false } : Scope)) (by decide +kernel)) (fun _ _ _ _ _ => (pg_name (i := 1) sc_is_knowing.nd rfl (Or.inl rfl))) (fun _ _ _ _ _ => pts_nil) (fun _ _ _ _ _ => (pe_call (ok_is_truth T O) (hr.mono (by decide)) (by rfl) O.m_is_truth O.F_is_truth.kp O.b_is_truth .nil pass0 (pa_cons (pv 1) pa_nil)))) pa_nil))))))), ?_⟩
  walk_at "r"
  refine ⟨_, _, rfl, hx, fun H1 s1 => ?_⟩
  walk_at "r"
  cases e : Jv.seqD d with
  | none =>
    have e2 : Jv.knowsD d = false := by unfold Jv.knowsD; rw [e]
    rw [e2] at q
    walk_at "r"; exact q _ s1
  | some ds =>
    obtain ⟨xs, sq0, al⟩ := hx.sk e
    have sq := sq0.same s1
    have al1 := al.same s1
    have ll := al.len
    have e2 : Jv.knowsD d = (decide (ds.length = 2) && ds.all Jv.boolD) := by unfold Jv.knowsD; rw [e]
    rw [e2] at q
    walk_at "r"
    refine sq.len ?_
    walk_at "r"
    refine Jv.r_decI (fun h0 => ?_) (fun h0 => ?_)
    · rw [decide_eq_true (p := ds.length = 2) (by omega), Bool.true_and] at q
      walk_at "r"
      refine Jv.lcS2 (K := K) (N := []) (j := 1) (i := 0) rfl sq .nil (ds.map fun e => .bool (Jv.boolD e)) (by rw [List.length_map]; omega) (by omega) (fun i v e' D H2 hi hv he s2 hN hD P hP => ?_) (fun D ys H2 s2 hD eD dv _ => ?_)
      · walk_at "r"
        obtain ⟨e0, h0e, hv2⟩ := al1.at hv
        rw [List.getElem?_map, h0e] at he
        obtain rfl := Option.some.inj he
        exact ⟨_, _, rfl, hv2.same s2, hP _ _ (Same.refl _) (.bl _)⟩
      · walk_at "r"
        rw [Jv.hide_nil, show (ds.map fun e => PyData.bool (Jv.boolD e)) = (ds.map Jv.boolD).map PyData.bool by rw [List.map_map]; rfl] at dv
        rw [Jv.dv_bools dv] at eD
        refine ⟨D, _, rfl, Jv.sqL_at eD, ?_⟩
        rw [List.all_map]
        exact q _ (s1.trans s2)
    · rw [decide_eq_false (p := ds.length = 2) (by omega), Bool.false_and] at q
      walk_at "r"
      exact q _ s1
theorem ok_sides_of_lines (T : Tx) (O : Ok K mg T) : FnOk P w K mg base CX0 2 T.f_sides_of_lines T.d_sides_of_lines ["lines"] (sp_sides_of_lines K) := by
  refine O.F_sides_of_lines.ok sc_sides_of_lines (fun vs H Q E h => by obtain ⟨_, _, rfl, _⟩ := h; rfl) (fun cdv A outer s H vs Q E hr h => ?_)
  obtain ⟨x, d, rfl, hx, fw, q1, q2⟩ := h
  refine ⟨_, (pss_cons (ps_if (PW.pt (pw_or (pt_not (pt_val (pe_call (ok_is_sequence T O) (hr.mono (by decide)) (by rfl) O.m_is_sequence O.F_is_sequence.kp O.b_is_sequence .nil pass0 (pa_cons (pv 0) pa_nil)))) (pw_or1 (pt_not (pt_val (pe_callB (r := rAll K) (cr_all rfl) (by rfl) O.z_all (by decide +kernel) (pa_cons (pe_lc (own := [("line", 2)]) (by rfl) sc_sides_of_lines.nd (Jv.piOr (show PI _ _ _ (iList K _) from pi_list (pv 0)) (show PI _ _ _ (iTup K _) from pi_tup (pv 0))) (blkOk_by (own := [("line", 2)]) (N := ["lines", "lengths", "line"]) (sc := defScope s_sides_of_lines) (scope := ({ kind := .function, names := [(".0", .local), ("line", .local), ("is_sequence", .globalImplicit)], isGenerator := false, isCoroutine := false } : Scope)) (by decide +kernel)) (fun _ _ _ _ _ => (pg_name (i := 2) sc_sides_of_lines.nd rfl (Or.inl rfl))) (fun _ _ _ _ _ => pts_nil) (fun _ _ _ _ _ => (pe_call (ok_is_sequence T O) (hr.mono (by decide)) (by rfl) O.m_is_sequence O.F_is_sequence.kp O.b_is_sequence .nil pass0 (pa_cons (pv 2) pa_nil)))) pa_nil))))))) (pss_one (ps_ret pe_non)) pss_nil)
  (pss_cons (ps_setLc (i := 1) (own := [("line", 2)]) (by rfl) sc_sides_of_lines.nd rfl rfl (sw_true rfl rfl rfl (by decide +kernel)) (Jv.piOr (show PI _ _ _ (iList K _) from pi_list (pv 0)) (show PI _ _ _ (iTup K _) from pi_tup (pv 0))) (blkOk_by (own := [("line", 2)]) (N := ["lines", "lengths", "line"]) (sc := defScope s_sides_of_lines) (scope := ({ kind := .function, names := [(".0", .local), ("line", .local), ("len", .globalImplicit)], isGenerator := false, isCoroutine := false } : Scope)) (by decide +kernel)) (fun _ _ _ _ _ => (pg_name (i := 2) sc_sides_of_lines.nd rfl (Or.inl rfl))) (fun _ _ _ _ _ => pts_nil) (fun _ _ _ _ _ => (pe_callB (r := Jv.rLenK K) Jv.cr_len (by rfl) O.z_len (by decide +kernel) (pa_cons (pv 2) pa_nil))))
  (pss_cons (ps_if (PW.pt (pw_or (pt_not (pt_truth (pv 1) (by intro _; rfl))) (pw_or1 (pt_cmpR (r := rNeD K) (op_neD hr.units) (pv 1) (pe_op op_rep (pe_lst (pa_cons (pe_ix (r := rIxL K) ix_list (pv 1) pe_int (fun _ _ => rfl)) pa_nil)) (pe_callB (r := Jv.rLenK K) Jv.cr_len (by rfl) O.z_len (by decide +kernel) (pa_cons (pv 1) pa_nil))) (nomark _))))) (pss_one (ps_ret pe_non)) pss_nil)
  (pss_one (ps_ret (pe_tup (pa_cons (pe_callB (r := Jv.rLenK K) Jv.cr_len (by rfl) O.z_len (by decide +kernel) (pa_cons (pv 1) pa_nil)) (pa_cons (pe_ix (r := rIxL K) ix_list (pv 1) pe_int (fun _ _ => rfl)) pa_nil)))))))), ?_⟩
  walk_at "r"
  refine ⟨_, _, rfl, hx, fun H1 s1 => ?_⟩
  walk_at "r"
  cases e : Jv.seqD d with
  | none =>
    have e2 : Jv.linesD d = none := by unfold Jv.linesD; rw [e]
    walk_at "r"; exact q1 e2 _ s1
  | some ds =>
    obtain ⟨fw1, fw2⟩ := fw ds e
    obtain ⟨xs, sq0, al⟩ := hx.sk e
    have sq := sq0.same s1
    have al1 := al.same s1
    have ll := al.len
    walk_at "r"
    refine Jv.lcS2 (K := K) (N := []) (j := 2) (i := 0) rfl sq .nil (ds.map fun e => .bool (Jv.seqD e).isSome) (by rw [List.length_map]; omega) (by omega) (fun i v e' D H2 hi hv he s2 hN hD P hP => ?_) (fun D ys H2 s2 hD eD dv _ => ?_)
    · walk_at "r"
      obtain ⟨e0, h0e, hv2⟩ := al1.at hv
      rw [List.getElem?_map, h0e] at he
      obtain rfl := Option.some.inj he
      exact ⟨_, _, rfl, hv2.same s2, fun H3 s3 => hP _ _ s3 (.bl _)⟩
    · walk_at "r"
      rw [Jv.hide_nil, show (ds.map fun e => PyData.bool (Jv.seqD e).isSome) = (ds.map fun e => (Jv.seqD e).isSome).map PyData.bool by rw [List.map_map]; rfl] at dv
      rw [Jv.dv_bools dv] at eD
      refine ⟨D, _, rfl, Jv.sqL_at eD, ?_⟩
      rw [List.all_map]
      walk_at "r"
      cases ea : (ds.all fun e => (Jv.seqD e).isSome) with
      | false =>
        have ea2 : (List.all ds ((fun b => id b) ∘ fun e => (Jv.seqD e).isSome)) = false := ea
        have e2 : Jv.linesD d = none := by unfold Jv.linesD; rw [e]; dsimp only; rw [ea, if_neg Bool.false_ne_true]
        rw [show (ds.all (id ∘ fun e => (Jv.seqD e).isSome)) = false from ea]
        walk_at "r"; exact q1 e2 _ (s1.trans s2)
      | true =>
        rw [show (ds.all (id ∘ fun e => (Jv.seqD e).isSome)) = true from ea]
        walk_at "r"
        have al2 := al1.same s2
        have s12 := s1.trans s2
        refine Jv.lcS2 (K := K) (N := []) (j := 2) (i := 0) rfl (sq.same s2) .nil ((ds.map fun e => (((Jv.seqD e).getD []).length : Int)).map PyData.int) (by rw [List.length_map, List.length_map]; omega) (by omega) (fun i v e' D2 H3 hi hv he s3 hN hD2 P hP => ?_) (fun D2 ys2 H3 s3 hD2 eD2 dv2 _ => ?_)
        · walk_at "r"
          obtain ⟨e0, h0e, hv2⟩ := al2.at hv
          rw [List.map_map, List.getElem?_map, h0e] at he
          obtain rfl := Option.some.inj he
          have hs := List.all_eq_true.mp ea e0 (List.mem_of_getElem? h0e)
          obtain ⟨l0, hl0⟩ := Option.isSome_iff_exists.mp hs
          obtain ⟨ys0, sk0, al0⟩ := hv2.sk hl0
          refine (sk0.same s3).len ?_
          show P (.int ys0.length) _
          rw [al0.len]
          refine hP _ _ (Same.refl _) ?_
          show Jv.Dv K _ _ (.int (((Jv.seqD e0).getD []).length : Int))
          rw [hl0]
          exact .int _
        · walk_at "r"
          rw [Jv.hide_nil] at dv2
          rw [Jv.dv_intsV dv2] at eD2
          have e3 : Jv.linesD d = (match ds.map (fun e => ((Jv.seqD e).getD []).length) with
            | [] => none
            | n :: ns => if ns.all (fun m => decide (m = n)) = true then some (ns.length + 1, n) else none) := by unfold Jv.linesD; rw [e]; dsimp only; (rw [ea, if_pos rfl]) <;> rfl
          rw [show (ds.map fun e => (((Jv.seqD e).getD []).length : Int)) = (ds.map fun e => ((Jv.seqD e).getD []).length).map fun (n : Nat) => (n : Int) by rw [List.map_map]; rfl] at eD2
          generalize eL : ds.map (fun e => ((Jv.seqD e).getD []).length) = L at eD2 e3
          have lL : L.length ≤ 100 := by rw [← eL, List.length_map]; exact fw1
          cases L with
          | nil =>
            refine ⟨false, Jv.tru_lst eD2, ?_⟩
            walk_at "r"
            exact q1 e3 _ (s12.trans s3)
          | cons n ns =>
            refine ⟨true, Jv.tru_lst eD2, ?_⟩
            walk_at "r"
            refine Jv.r_ixL (Jv.sqL_at eD2) (v := .int n) (Jv.at_i (by decide) rfl) ?_
            walk_at "r"
            intro t ht
            walk_at "r"
            rw [List.length_map, List.length_map]
            refine ⟨t, _, [.int n], rfl, rfl, upd_same, by omega, by simp at lL ⊢; omega, Jv.small_of (by simp at lL ⊢; omega), fun p hp => ?_⟩
            have e4 : (List.replicate (((n :: ns).length : Nat) : Int).toNat [V.int n]).flatten = (List.replicate (ns.length + 1) (n : Int)).map V.int := by
              rw [Jv.flat_one, List.map_replicate]; rfl
            rw [e4]
            refine ⟨_, _, Jv.dpL (by walk_at "sq"), Jv.dpL (by walk_at "sq"), Jv.shapedL _, Jv.shapedL _, ?_⟩
            rw [Jv.eqvL]
            walk_at "r"
            have sAll := (s12.trans s3).trans ((Jv.same_new (u := .lst [.int n]) ht).trans (Jv.same_new (u := .lst ((List.replicate (ns.length + 1) (n : Int)).map V.int)) hp))
            cases ec : ns.all (fun m => decide (m = n)) with
            | false =>
              dsimp only at e3
              rw [ec, if_neg Bool.false_ne_true] at e3
              rw [decide_eq_false (fun z => by rw [Jv.rep_all.mp z] at ec; cases ec)]
              walk_at "r"
              exact q1 e3 _ sAll
            | true =>
              dsimp only at e3
              rw [ec, if_pos rfl] at e3
              rw [decide_eq_true (Jv.rep_all.mpr ec)]
              walk_at "r"
              refine Jv.r_ixL (Jv.sqL_at (xs := ((n :: ns).map fun (k : Nat) => (k : Int)).map V.int) (by walk_at "hp")) (v := .int n) (Jv.at_i (by decide) rfl) ?_
              walk_at "r"
              intro u hu
              rw [List.length_map, List.length_map]
              exact q2 _ _ e3 u _ (sAll.trans (Jv.same_new hu)) upd_same
end
end K04

namespace K04
open PySem PySem.Spec PyProof.Rows L2
/-! ### goals -/
def sp_BadX_init (C : Addr) (f : Str) : Sp := fun vs H Q _ => ∃ a v, vs = [.ref a, v] ∧ H a = some (exo a C none) ∧ ∀ d, H d = none → d ≠ a → Q .non (upd (upd H d (exd d [(f, v)])) a (exo a C (some d)))
/-- sorted, each once, of numbers from -l to l -/
def neatI (l : Int) (ns : List Int) : List Int := ((List.range (2 * l + 1).toNat).map fun (i : Nat) => (i : Int) - l).filter fun n => decide (n ∈ ns)
def lineD (l : Int) (line : List (List Int)) : PyData := .tuple (line.map fun ns => .tuple ((neatI l ns).map .int))
def wantD (l : Int) (lls : List (List (List Int))) : PyData := .tuple (lls.map (lineD l))
def GAt (K : PySem.W.Frag) (H : Hp) (C a : Addr) (l : Int) (W : PyData) (k0 k1 : Bool) (p q : Int) : Prop :=
  ∃ dx w k s, H a = some (.ins C dx [("ladder", .int l), ("wanted", w), ("knows", k), ("sides", s)]) ∧ Jv.Dv K H w W ∧ Jv.Dv K H k (.tuple [.bool k0, .bool k1]) ∧ Jv.Dv K H s (.tuple [.int p, .int q])
/-- data of lines of lists of ends -/
def EndsR (e : PyData) (ns : List Int) : Prop := Jv.seqD e = some (ns.map .int)
def LineR (r : PyData) (line : List (List Int)) : Prop := ∃ es, Jv.seqD r = some es ∧ Paired EndsR es line
def LinesR (d : PyData) (lls : List (List (List Int))) : Prop := ∃ rows, Jv.seqD d = some rows ∧ Paired LineR rows lls
def sidesOf : Option (Nat × Nat) → PyData
  | none => .none
  | some (p, q) => .tuple [.int p, .int q]
def allEnds (l : Int) (d : PyData) : Bool := (((Jv.seqD d).getD []).flatMap fun r => (Jv.seqD r).getD []).all (Jv.endsD l)
def faultG (dl dw dk : PyData) : Option Str :=
  match dl with
  | .int l => if Jv.wholeD dl (.int 0) (.int 6) = false then some "ladder" else if Jv.sidesD (sidesOf (Jv.linesD dw)) = false then some "sides" else if allEnds l dw = false then some "wanted" else if Jv.knowsD dk = false then some "knows" else none
  | _ => some "ladder"
/-- what goals may be made of -/
structure GoodG (dl dw dk : PyData) (l : Int) (lls : List (List (List Int))) (k0 k1 : Bool) (p q : Nat) : Prop where
  dl : dl = .int l
  l0 : 0 ≤ l
  l6 : l ≤ 6
  dw : LinesR dw lls
  hp : lls.length = p
  hq : ∀ line ∈ lls, line.length = q
  p0 : 1 ≤ p
  p6 : p ≤ 6
  q0 : 1 ≤ q
  q6 : q ≤ 6
  pq : p * q ≤ 12
  ends : ∀ line ∈ lls, ∀ ns ∈ line, ns ≠ [] ∧ ns.length ≤ 60 ∧ ∀ n ∈ ns, -l ≤ n ∧ n ≤ l
  dk : Jv.seqD dk = some [.bool k0, .bool k1]
theorem memL {α β : Type} {F : α → β → Prop} : ∀ {xs : List α} {ys : List β} {x : α}, Paired F xs ys → x ∈ xs → ∃ y ∈ ys, F x y
  | _, _, _, .nil, m => by cases m
  | _, _, _, .cons a b, m => by
    rcases List.mem_cons.mp m with rfl | m
    · exact ⟨_, List.mem_cons_self, a⟩
    · obtain ⟨y, h1, h2⟩ := memL b m
      exact ⟨y, List.mem_cons_of_mem _ h1, h2⟩
theorem pairAt {α β : Type} {F : α → β → Prop} : ∀ {xs : List α} {ys : List β} {i : Nat} {x : α}, Paired F xs ys → xs[i]? = some x → ∃ y, ys[i]? = some y ∧ F x y
  | _, _, _, _, .nil, e => by simp at e
  | _, _, 0, _, .cons a _, e => by
    simp at e; subst e; exact ⟨_, rfl, a⟩
  | _, _, i + 1, _, .cons _ b, e => by
    simp at e ⊢; exact pairAt b e
theorem LineR.some {r : PyData} {line : List (List Int)} (h : LineR r line) : (Jv.seqD r).isSome = true := by
  obtain ⟨es, e, _⟩ := h
  rw [e]; rfl
theorem LineR.len {r : PyData} {line : List (List Int)} (h : LineR r line) : ((Jv.seqD r).getD []).length = line.length := by
  obtain ⟨es, e, p⟩ := h
  rw [e]; exact Paired.length p
theorem lines_len : ∀ {rows : List PyData} {lls : List (List (List Int))}, Paired LineR rows lls → rows.map (fun e => ((Jv.seqD e).getD []).length) = lls.map List.length
  | _, _, .nil => rfl
  | _, _, .cons a b => by rw [List.map_cons, List.map_cons, a.len, lines_len b]
section
variable {dl dw dk : PyData} {l : Int} {lls : List (List (List Int))} {k0 k1 : Bool} {p q : Nat}
theorem GoodG.lines (g : GoodG dl dw dk l lls k0 k1 p q) : Jv.linesD dw = .some (p, q) := by
  obtain ⟨rows, e, pr⟩ := g.dw
  have hall : (rows.all fun e => (Jv.seqD e).isSome) = true := List.all_eq_true.mpr fun r hr => by
    obtain ⟨line, _, h⟩ := memL pr hr
    exact h.some
  unfold Jv.linesD
  rw [e]; dsimp only
  rw [hall, if_pos rfl, lines_len pr]
  have hp := g.hp
  have hq := g.hq
  have p0 := g.p0
  cases lls with
  | nil => exfalso; rw [← hp] at p0; exact absurd p0 (by decide)
  | cons a r =>
    rw [List.map_cons]
    show (if _ then _ else _) = _
    have h1 : a.length = q := hq a List.mem_cons_self
    have h2 : (r.map List.length).all (fun m => decide (m = a.length)) = true := List.all_eq_true.mpr fun m hm => by
      obtain ⟨b, hb, rfl⟩ := List.mem_map.mp hm
      exact decide_eq_true (by rw [h1]; exact hq b (List.mem_cons_of_mem _ hb))
    rw [h2, if_pos rfl, List.length_map, h1, ← hp]; rfl
theorem GoodG.sides (g : GoodG dl dw dk l lls k0 k1 p q) : Jv.sidesD (sidesOf (Jv.linesD dw)) = true := by
  rw [g.lines]
  show decide _ = true
  have h := g.pq
  refine decide_eq_true ⟨⟨?_, ?_⟩, ⟨?_, ?_⟩, ?_⟩
  · have := g.p0; omega
  · have := g.p6; omega
  · have := g.q0; omega
  · have := g.q6; omega
  · exact_mod_cast h
theorem GoodG.allEnds (g : GoodG dl dw dk l lls k0 k1 p q) : allEnds l dw = true := by
  obtain ⟨rows, e, pr⟩ := g.dw
  unfold K04.allEnds
  rw [e]
  refine List.all_eq_true.mpr fun x hx => ?_
  obtain ⟨r, hr, hx⟩ := List.mem_flatMap.mp hx
  obtain ⟨line, hline, es, e2, pr2⟩ := memL pr hr
  rw [e2] at hx
  obtain ⟨ns, hns, h⟩ := memL pr2 hx
  obtain ⟨h1, _, h3⟩ := g.ends line hline ns hns
  unfold Jv.endsD
  rw [show Jv.seqD x = .some (ns.map .int) from h]
  show (decide _ && _) = true
  rw [decide_eq_true (by rw [List.length_map]; exact List.length_pos_iff.mpr h1), Bool.true_and, List.all_map, List.all_eq_true]
  intro n hn
  obtain ⟨a, b⟩ := h3 n hn
  show (decide (-l ≤ n) && decide (n ≤ l)) = true
  rw [decide_eq_true a, decide_eq_true b]; rfl
theorem GoodG.knows (g : GoodG dl dw dk l lls k0 k1 p q) : Jv.knowsD dk = true := by
  unfold Jv.knowsD
  rw [g.dk]; rfl
theorem GoodG.whole (g : GoodG dl dw dk l lls k0 k1 p q) : Jv.wholeD dl (.int 0) (.int 6) = true := by
  rw [g.dl]
  show (decide (0 ≤ l) && decide (l ≤ 6)) = true
  rw [decide_eq_true g.l0, decide_eq_true g.l6]; rfl
theorem GoodG.nofault (g : GoodG dl dw dk l lls k0 k1 p q) : faultG dl dw dk = none := by
  have h1 := g.whole; have h2 := g.sides; have h3 := g.allEnds; have h4 := g.knows; have h5 := g.dl
  subst h5
  unfold faultG
  dsimp only
  rw [h1, h2, h3, h4]; rfl
end
theorem neat_eq {l : Int} {ns ms : List Int} (h : ∀ n ∈ ns, -l ≤ n ∧ n ≤ l) (hs : ms.Pairwise (· < ·)) (hm : ∀ k : Int, k ∈ ms ↔ decide (k ∈ ns) = true) : ms = neatI l ns := by
  refine Jv.sorted_ext hs ?_ fun n => ?_
  · unfold neatI
    refine List.Pairwise.filter _ ?_
    rw [List.pairwise_map]
    exact List.pairwise_lt_range.imp fun h => by omega
  · rw [hm n, decide_eq_true_iff]
    unfold neatI
    rw [List.mem_filter, decide_eq_true_iff]
    refine ⟨fun m => ⟨?_, m⟩, fun m => m.2⟩
    obtain ⟨a, b⟩ := h n m
    exact List.mem_map.mpr ⟨(n + l).toNat, by rw [List.mem_range]; omega, by omega⟩
theorem raise_same {H : Hp} {a d : Addr} {x y z u : HO} (ha : H a = none) (hd : H d = none) : Same H (upd (del (upd (upd (upd H a x) d y) a z) a) d u) := fun b o hb => by
  have na := ne_of_none hb ha
  have nd := ne_of_none hb hd
  rw [upd_ne nd, del_ne na, upd_ne na, upd_ne nd, upd_ne na]
  exact hb
def sp_Goals_init (K : PySem.W.Frag) (C CB : Addr) : Sp := fun vs H Q E => ∃ a dx xl dl xw dw xk dk, vs = [.ref a, xl, xw, xk] ∧ H a = some (.ins C dx []) ∧ Jv.Dv K H xl dl ∧ Jv.Dv K H xw dw ∧ Jv.few3 dw ∧ Jv.Dv K H xk dk ∧
  ((∃ f, faultG dl dw dk = some f ∧ ∀ d H', Same H H' → H' d = some (.xd [("what", .str f)]) → E (.ref CB) (some d) H') ∨
   (∃ l lls k0 k1 p q, GoodG dl dw dk l lls k0 k1 p q ∧ ∀ H', (∀ b o, b ≠ a → H b = some o → H' b = some o) → GAt K H' C a l (wantD l lls) k0 k1 p q → Q .non H'))
section
variable {P : Program} {w : World} {K : PySem.W.Frag} {mg : Str → Option Value} {base : Heap}
theorem ok_BadGoalsu_initu (T : Tx) (O : Ok K mg T) : FnOk P w K mg base CX0 1 T.f_BadGoalsu_initu T.d_BadGoalsu_initu ["self", "what"] (sp_BadX_init T.C_BadGoals "what") := by
  refine O.F_BadGoalsu_initu.ok sc_BadGoalsu_initu (fun vs H Q E h => by obtain ⟨_, _, rfl, _⟩ := h; rfl) (fun cdv A outer s H vs Q E hr h => ?_)
  obtain ⟨a, v, rfl, ha, q⟩ := h
  refine ⟨_, (pss_one (ps_ost (pv 0) (pv 1))), ?_⟩
  exact ⟨_, rfl, _, rfl, a, T.C_BadGoals, rfl, O.x_BadGoals.o, O.n_BadGoals_what, .inl ⟨ha, fun d hd ne => q d hd ne⟩⟩
theorem ok_Goalsu_initu (T : Tx) (O : Ok K mg T) : FnOk P w K mg base (L2.CX P w) 3 T.f_Goalsu_initu T.d_Goalsu_initu ["self", "ladder", "wanted", "knows"] (sp_Goals_init K T.C_Goals T.C_BadGoals) := by
  refine FunD.ok O.F_Goalsu_initu sc_Goalsu_initu (fun vs H Q E h => by obtain ⟨_, _, _, _, _, _, _, _, rfl, _⟩ := h; rfl) (fun cdv A outer s H vs Q E hr h => ?_)
  obtain ⟨a, dx, xl, dl, xw, dw, xk, dk, rfl, ha, hl, hw, fw, hk, q⟩ := h
  refine ⟨_, (pss_cons (ps_if (pt_not (pt_val (pe_call (ok_is_whole T O) (hr.mono (by decide)) (by rfl) O.m_is_whole O.F_is_whole.kp O.b_is_whole .nil pass0 (pa_cons (pv 1) (pa_cons pe_int (pa_cons (pe_glob (v := .int (6)) (by rfl) O.c_LADDER_MOST ⟨_, rfl⟩) pa_nil)))))) (pss_one (ps_raise rfl (takes_of rfl rfl rfl rfl) (pmk_oex O.x_BadGoals.o O.x_BadGoals.n O.x_BadGoals.y (ok_BadGoalsu_initu T O) (hr.mono (by decide)) O.b_BadGoalsu_initu .nil pass0 (by rfl) O.m_BadGoals (pa_cons pe_str pa_nil)))) pss_nil)
  (pss_cons (ps_set (i := 4) sc_Goalsu_initu.nd rfl (Or.inl rfl) (pe_call (ok_sides_of_lines T O) (hr.mono (by decide)) (by rfl) O.m_sides_of_lines O.F_sides_of_lines.kp O.b_sides_of_lines .nil pass0 (pa_cons (pv 2) pa_nil)))
  (pss_cons (ps_if (pt_not (pt_val (pe_call (ok_are_sides T O) (hr.mono (by decide)) (by rfl) O.m_are_sides O.F_are_sides.kp O.b_are_sides .nil pass0 (pa_cons (pv 4) pa_nil)))) (pss_one (ps_raise rfl (takes_of rfl rfl rfl rfl) (pmk_oex O.x_BadGoals.o O.x_BadGoals.n O.x_BadGoals.y (ok_BadGoalsu_initu T O) (hr.mono (by decide)) O.b_BadGoalsu_initu .nil pass0 (by rfl) O.m_BadGoals (pa_cons pe_str pa_nil)))) pss_nil)
  (pss_cons (ps_if (pt_not (pt_val (pe_callB (r := rAll K) (cr_all rfl) (by rfl) O.z_all (by decide +kernel) (pa_cons (pe_lc2 (own := [("line", 5), ("ends", 6)]) (vs1 := [6]) (by rfl) sc_Goalsu_initu.nd (Jv.piOr (show PI _ _ _ (iList K _) from pi_list (pv 2)) (show PI _ _ _ (iTup K _) from pi_tup (pv 2))) (blkOk_by (own := [("line", 5), ("ends", 6)]) (N := ["self", "ladder", "wanted", "knows", "sides", "line", "ends"]) (sc := defScope s_Goalsu_initu) (by decide +kernel)) (by decide) (fun _ _ _ _ _ => (pg_name (i := 5) sc_Goalsu_initu.nd rfl (Or.inl rfl))) (fun _ _ _ _ _ => pts_nil) (fun _ _ _ _ _ => (Jv.piOr (show PI _ _ _ (iList K _) from pi_list (pv 5)) (show PI _ _ _ (iTup K _) from pi_tup (pv 5)))) (fun _ _ _ _ _ => (pg_name (i := 6) sc_Goalsu_initu.nd rfl (Or.inl rfl))) (fun _ _ _ _ _ => pts_nil) (fun _ _ _ _ _ => (pe_call (ok_are_ends T O) (hr.mono (by decide)) (by rfl) O.m_are_ends O.F_are_ends.kp O.b_are_ends .nil pass0 (pa_cons (pv 6) (pa_cons (pv 1) pa_nil))))) pa_nil)))) (pss_one (ps_raise rfl (takes_of rfl rfl rfl rfl) (pmk_oex O.x_BadGoals.o O.x_BadGoals.n O.x_BadGoals.y (ok_BadGoalsu_initu T O) (hr.mono (by decide)) O.b_BadGoalsu_initu .nil pass0 (by rfl) O.m_BadGoals (pa_cons pe_str pa_nil)))) pss_nil)
  (pss_cons (ps_if (pt_not (pt_val (pe_call (ok_is_knowing T O) (hr.mono (by decide)) (by rfl) O.m_is_knowing O.F_is_knowing.kp O.b_is_knowing .nil pass0 (pa_cons (pv 3) pa_nil)))) (pss_one (ps_raise rfl (takes_of rfl rfl rfl rfl) (pmk_oex O.x_BadGoals.o O.x_BadGoals.n O.x_BadGoals.y (ok_BadGoalsu_initu T O) (hr.mono (by decide)) O.b_BadGoalsu_initu .nil pass0 (by rfl) O.m_BadGoals (pa_cons pe_str pa_nil)))) pss_nil)
  (pss_cons (ps_fld (pv 0) (pv 1) rfl)
  (pss_cons (ps_fld (pv 0) (pe_callTy (r := Jv.rTupOf K) call_tuple_of (by rfl) O.z_tuple (by decide +kernel) (pa_cons (pe_lc (own := [("line", 5)]) (by rfl) sc_Goalsu_initu.nd (Jv.piOr (show PI _ _ _ (iList K _) from pi_list (pv 2)) (show PI _ _ _ (iTup K _) from pi_tup (pv 2))) (blkOk_by (own := [("line", 5)]) (N := ["self", "ladder", "wanted", "knows", "sides", "line", "ends"]) (sc := defScope s_Goalsu_initu) (scope := ({ kind := .function, names := [(".0", .local), ("line", .local), ("tuple", .globalImplicit)], isGenerator := false, isCoroutine := false } : Scope)) (by decide +kernel)) (fun _ _ _ _ _ => (pg_name (i := 5) sc_Goalsu_initu.nd rfl (Or.inl rfl))) (fun _ _ _ _ _ => pts_nil) (fun _ _ _ _ _ => (pe_callTy (r := Jv.rTupOf K) call_tuple_of (by rfl) O.z_tuple (by decide +kernel) (pa_cons (pe_lc (own := [("ends", 6)]) (by rfl) sc_Goalsu_initu.nd (Jv.piOr (show PI _ _ _ (iList K _) from pi_list (pv 5)) (show PI _ _ _ (iTup K _) from pi_tup (pv 5))) (blkOk_by (own := [("ends", 6)]) (N := ["self", "ladder", "wanted", "knows", "sides", "line", "ends"]) (sc := ({ kind := .function, names := [(".0", .local), ("line", .local), ("tuple", .globalImplicit)], isGenerator := false, isCoroutine := false } : Scope)) (scope := ({ kind := .function, names := [(".0", .local), ("ends", .local), ("tuple", .globalImplicit), ("sorted", .globalImplicit), ("set", .globalImplicit)], isGenerator := false, isCoroutine := false } : Scope)) (by decide +kernel)) (fun _ _ _ _ _ => (pg_name (i := 6) sc_Goalsu_initu.nd rfl (Or.inl rfl))) (fun _ _ _ _ _ => pts_nil) (fun _ _ _ _ _ => (pe_callTy (r := Jv.rTupOf K) call_tuple_of (by rfl) O.z_tuple (by decide +kernel) (pa_cons (pe_callB (r := rSortedSet w) (cr_sortedSet rfl) (by rfl) O.z_sorted (by decide +kernel) (pa_cons (pe_callTy (r := Jv.rSetI K w) (Jv.cr_setI rfl) (by rfl) O.z_set (by decide +kernel) (pa_cons (pv 6) pa_nil)) pa_nil)) pa_nil)))) pa_nil)))) pa_nil)) rfl)
  (pss_cons (ps_fld (pv 0) (pe_callTy (r := Jv.rTupOf K) call_tuple_of (by rfl) O.z_tuple (by decide +kernel) (pa_cons (pv 3) pa_nil)) rfl)
  (pss_one (ps_fld (pv 0) (pv 4) rfl)))))))))), ?_⟩
  walk_at "r"
  have ea : ∀ (f : Str) (Hx : Hp), Same H Hx → faultG dl dw dk = some f → ∀ d H', Same Hx H' → H' d = some (.xd [("what", .str f)]) → E (.ref T.C_BadGoals) (some d) H' := fun f Hx sx hf d H' s' hd => by
    rcases q with ⟨f2, hf2, q⟩ | ⟨l, lls, k0, k1, p, q0, g, _⟩
    · rw [hf] at hf2; cases hf2
      exact q d H' (sx.trans s') hd
    · rw [g.nofault] at hf; cases hf
  have rz : ∀ (f : Str) (Hx : Hp) (σ : L2.St), Same H Hx → faultG dl dw dk = some f → tMkO T.C_BadGoals (sp_BadX_init T.C_BadGoals "what") [] (tCons (tC (.str f)) tNil) σ Hx (fun cls d H' => E cls d H') := fun f Hx σ sx hf =>
    ⟨Nat.le_of_ble_eq_true rfl, fun a ha => ⟨a, _, rfl, upd_same, fun d hd ne => ⟨rfl, d, _, upd_same, by rw [upd_ne ne]; exact upd_same, by rw [upd_ne ne] at hd; exact hd, by
      rw [upd_ne ne] at hd
      exact ea _ Hx sx hf d _ (raise_same ha hd) upd_same⟩⟩⟩
  refine ⟨_, _, _, _, rfl, hl, .inr ⟨_, rfl⟩, .inr ⟨_, rfl⟩, ?_⟩
  rw [hl.whole]
  walk_at "r"
  cases ew : Jv.wholeD dl (.int 0) (.int 6) with
  | false =>
    have ef : faultG dl dw dk = some ("ladder" : Str) := by
      unfold faultG
      cases dl with
      | int l => dsimp only; rw [ew, if_pos rfl]
      | _ => rfl
    walk_at "r"
    exact rz _ _ _ (Same.refl _) ef
  | true =>
  obtain ⟨l, rfl, l0, l6⟩ := Jv.wholeD_int ew
  have fG : ∀ x, faultG (.int l) dw dk = some x ↔ (if Jv.sidesD (sidesOf (Jv.linesD dw)) = false then some ("sides" : Str) else if allEnds l dw = false then some ("wanted" : Str) else if Jv.knowsD dk = false then some ("knows" : Str) else none) = some x := fun x => by
    unfold faultG
    dsimp only
    rw [ew, if_neg (by decide)]
  cases hl
  walk_at "r"
  have fw2 : Jv.few2 dw := fun ds e => ⟨(fw ds e).1, fun x hx es he => ((fw ds e).2 x hx es he).1⟩
  refine ⟨_, _, rfl, hw, fw2, fun en H1 s1 => ?_, fun p0 q0 en t H1 s1 ht => ?_⟩
  · walk_at "r"
    refine ⟨_, _, rfl, .non, fun H2 s2 => ?_⟩
    walk_at "r"
    exact rz _ _ _ (s1.trans s2) ((fG _).mpr (by rw [en]; rfl))
  · walk_at "r"
    refine ⟨_, _, rfl, .tup (Jv.sqT_at ht) (.cons (.int _) (.cons (.int _) .nil)), fun H2 s2 => ?_⟩
    have s12 := s1.trans s2
    have ht2 := s2 _ _ ht
    walk_at "r"
    have hso : sidesOf (Jv.linesD dw) = .tuple [.int p0, .int q0] := by rw [en]; rfl
    cases es : Jv.sidesD (.tuple [.int p0, .int q0]) with
    | false =>
      walk_at "r"
      exact rz _ _ _ s12 ((fG _).mpr (by rw [hso, es]; rfl))
    | true =>
    walk_at "r"
    have hrows : ∃ rows, Jv.seqD dw = some rows ∧ rows.all (fun e => (Jv.seqD e).isSome) = true := by
      unfold Jv.linesD at en
      cases er : Jv.seqD dw with
      | none => rw [er] at en; cases en
      | some rows =>
        refine ⟨rows, rfl, ?_⟩
        rw [er] at en; dsimp only at en
        cases hb : rows.all (fun e => (Jv.seqD e).isSome) with
        | true => rfl
        | false => rw [hb, if_neg Bool.false_ne_true] at en; cases en
    obtain ⟨rows, er, hall⟩ := hrows
    obtain ⟨xs, skw, alw⟩ := hw.sk er
    obtain ⟨fr1, fr2⟩ := fw rows er
    refine Jv.lc2D (K := K) (N := []) (i := 2) (a := 5) (b := 6) rfl (skw.same s12) (alw.same s12) .nil (fun e => .bool (Jv.endsD l e)) (fun e he => ?_) fr1 (fun _ => rfl) (fun _ _ => rfl) (fun _ => rfl) (fun v u d D H3 du hd3 s3 hN hD PP hP => ?_) (fun D ys H3 s3 hD eD dv => ?_)
    · obtain ⟨z, hz⟩ := Option.isSome_iff_exists.mp (List.all_eq_true.mp hall e he)
      exact ⟨z, hz, (fr2 e he z hz).1⟩
    · obtain ⟨e, he, z, hz, hd3⟩ := hd3
      walk_at "r"
      exact ⟨_, _, _, rfl, du, (fr2 e he z hz).2 d hd3, fun H4 s4 => hP _ _ s4 (.bl _)⟩
    · walk_at "r"
      rw [Jv.hide_nil] at dv
      have efl : rows.flatMap (Jv.rowG fun e => .bool (Jv.endsD l e)) = ((rows.flatMap fun r => (Jv.seqD r).getD []).map (Jv.endsD l)).map PyData.bool := by
        rw [List.map_map, List.map_flatMap]; rfl
      rw [efl] at dv
      rw [Jv.dv_bools dv] at eD
      refine ⟨D, _, rfl, Jv.sqL_at eD, ?_⟩
      have eae : ((rows.flatMap fun r => (Jv.seqD r).getD []).map (Jv.endsD l)).all id = allEnds l dw := by
        rw [List.all_map]; unfold allEnds; rw [er]; rfl
      rw [eae]
      walk_at "r"
      have s13 := s12.trans s3
      cases eE : allEnds l dw with
      | false =>
        walk_at "r"
        exact rz _ _ _ s13 ((fG _).mpr (by rw [hso, es, eE]; rfl))
      | true =>
      walk_at "r"
      refine ⟨_, _, rfl, hk.same s13, fun H4 s4 => ?_⟩
      have s14 := s13.trans s4
      walk_at "r"
      cases eK : Jv.knowsD dk with
      | false =>
        walk_at "r"
        exact rz _ _ _ s14 ((fG _).mpr (by rw [hso, es, eE, eK]; rfl))
      | true =>
      walk_at "r"
      rcases q with ⟨f, hf, _⟩ | ⟨l', lls, k0, k1, p, q', g, qk⟩
      · have := (fG _).mp hf
        rw [hso, es, eE, eK] at this
        cases this
      have el : l = l' := PyData.int.inj g.dl
      subst el
      have epq := g.lines
      rw [en] at epq
      cases epq
      have ha4 := s14 _ _ ha
      refine Jv.r_sfld ?_
      walk_at "r"
      refine ⟨a, _, dx, [], rfl, ha4, O.o_Goals, O.n_Goals_ladder, by decide, ?_⟩
      walk_at "r"
      have hw5 := (hw.same s14).ins (o := .ins T.C_Goals dx (putF "ladder" (.int l) [])) ha4
      have hk5 := (hk.same s14).ins (o := .ins T.C_Goals dx (putF "ladder" (.int l) [])) ha4
      have ht5 : upd H4 a (.ins T.C_Goals dx (putF "ladder" (.int l) [])) t = some (.tup [.int p0, .int q0]) := by
        have h4 := s4 _ _ (s3 _ _ ht2)
        exact Jv.kpO h4 fun e => by rw [e, ha4] at h4; cases h4
      have old5 : ∀ b o, b ≠ a → H b = some o → upd H4 a (.ins T.C_Goals dx (putF "ladder" (.int l) [])) b = some o := fun b o nb hb => Jv.kpO (s14 _ _ hb) nb
      have ha5 : upd H4 a (.ins T.C_Goals dx (putF "ladder" (.int l) [])) a = some (.ins T.C_Goals dx [("ladder", .int l)]) := upd_same
      generalize upd H4 a (.ins T.C_Goals dx (putF "ladder" (.int l) [])) = H5 at hw5 hk5 ht5 old5 ha5 ⊢
      obtain ⟨ws, skw5, alw5⟩ := hw5.sk er
      obtain ⟨rows', er', prw⟩ := g.dw
      rw [er] at er'
      cases er'
      refine Jv.r_sfld ?_
      walk_at "r"
      have lws := alw5.len
      have lrw := Paired.length prw
      refine Jv.lcS2 (K := K) (N := []) (j := 5) (i := 2) rfl skw5 .nil (lls.map (lineD l)) (by rw [List.length_map]; omega) (by omega) (fun i v e D1 H6 hi hv he s6 hN1 hD1 PP hP => ?_) (fun D1 ys H6 s6 hD1 eD1 dv1 _ => ?_)
      · obtain ⟨r, hr, dr⟩ := alw5.at hv
        obtain ⟨line, hline, hLR⟩ := pairAt prw hr
        rw [List.getElem?_map, hline] at he
        obtain rfl := Option.some.inj he
        obtain ⟨es', ers, prl⟩ := hLR
        obtain ⟨us, sku, alu⟩ := (dr.same s6).sk ers
        have hends := g.ends line (List.mem_of_getElem? hline)
        have hrm := List.mem_of_getElem? hr
        have fq := (fr2 r hrm es' ers).1
        have lus := alu.len
        have lpl := Paired.length prl
        walk_at "r"
        refine Jv.lcS2 (K := K) (N := [D1]) (j := 6) (i := 5) rfl sku hN1 (line.map fun ns => .tuple ((neatI l ns).map .int)) (by rw [List.length_map]; omega) (by omega) (fun i2 u e2 D2 H7 hi2 hu he2 s7 hN2 hD2 PP2 hP2 => ?_) (fun D2 ys2 H7 s7 hD2 eD2 dv2 _ => ?_)
        · obtain ⟨e0, he0, du0⟩ := alu.at hu
          obtain ⟨ns, hns, hER⟩ := pairAt prl he0
          rw [List.getElem?_map, hns] at he2
          obtain rfl := Option.some.inj he2
          obtain ⟨us2, ⟨b, eb, hb⟩, al2⟩ := (du0.same s7).sk hER
          subst eb
          rw [Jv.dv_intsV al2] at hb
          obtain ⟨_, few60, hin⟩ := hends ns (List.mem_of_getElem? hns)
          walk_at "r"
          refine ⟨b, ns, rfl, hb, by omega, fun c n hc hn => ?_⟩
          walk_at "r"
          refine ⟨c, _, n, rfl, upd_same, by omega, fun ms r hs hm _ hr => ?_⟩
          walk_at "r"
          refine ⟨r, _, rfl, .inl ⟨Jv.sqL_at upd_same, fun t2 ht2 => ?_⟩⟩
          have em := neat_eq hin hs hm
          subst em
          have sc := (Jv.same_new (u := SetO w c (fun j => decide (j ∈ ns)) n) hc).trans (Jv.same_new (u := .lst ((neatI l ns).map V.int)) hr)
          exact hP2 _ _ (sc.trans (Jv.same_new ht2)) (Jv.dv_new ht2 (hN2.same sc) (Jv.dv_ints _))
        · walk_at "r"
          refine ⟨D2, _, rfl, .inl ⟨Jv.sqL_at eD2, fun t2 ht2 => ?_⟩⟩
          exact hP _ _ (s7.trans (Jv.same_new ht2)) (Jv.dv_new ht2 (hN1.same s7) dv2)
      · walk_at "r"
        refine ⟨D1, _, rfl, .inl ⟨Jv.sqL_at eD1, fun t2 ht2 => ?_⟩⟩
        rw [Jv.hide_nil] at dv1
        have hW : Jv.Dv K (upd H6 t2 (.tup ys)) (.ref t2) (wantD l lls) := .tup (Jv.sqT_at upd_same) (dv1.same (Jv.same_new ht2))
        have s6n := s6.trans (Jv.same_new (u := .tup ys) ht2)
        have ha7 := s6n _ _ ha5
        have hk7 := hk5.same s6n
        have ht7 := s6n _ _ ht5
        have old7 : ∀ b o, b ≠ a → H b = some o → upd H6 t2 (.tup ys) b = some o := fun b o nb hb => s6n _ _ (old5 b o nb hb)
        generalize upd H6 t2 (.tup ys) = H7 at hW ha7 hk7 ht7 old7 ⊢
        walk_at "r"
        refine ⟨a, _, dx, _, rfl, ha7, O.o_Goals, O.n_Goals_wanted, Nat.le_of_ble_eq_true rfl, ?_⟩
        walk_at "r"
        have hW8 := hW.ins (o := .ins T.C_Goals dx (putF "wanted" (.ref t2) [("ladder", .int l)])) ha7
        have hk8 := hk7.ins (o := .ins T.C_Goals dx (putF "wanted" (.ref t2) [("ladder", .int l)])) ha7
        have ht8 : upd H7 a (.ins T.C_Goals dx (putF "wanted" (.ref t2) [("ladder", .int l)])) t = some (.tup [.int p0, .int q0]) := Jv.kpO ht7 fun e => by rw [e, ha7] at ht7; cases ht7
        have old8 : ∀ b o, b ≠ a → H b = some o → upd H7 a (.ins T.C_Goals dx (putF "wanted" (.ref t2) [("ladder", .int l)])) b = some o := fun b o nb hb => Jv.kpO (old7 b o nb hb) nb
        have ha8 : upd H7 a (.ins T.C_Goals dx (putF "wanted" (.ref t2) [("ladder", .int l)])) a = some (.ins T.C_Goals dx [("ladder", .int l), ("wanted", .ref t2)]) := upd_same
        generalize upd H7 a (.ins T.C_Goals dx (putF "wanted" (.ref t2) [("ladder", .int l)])) = H8 at hW8 hk8 ht8 old8 ha8 ⊢
        refine Jv.r_sfld ?_
        walk_at "r"
        obtain ⟨ks, skk, alk⟩ := hk8.sk g.dk
        refine skk.tup fun tk H9 s9 hT => ?_
        walk_at "r"
        have ha9 := s9 _ _ ha8
        refine ⟨a, _, dx, _, rfl, ha9, O.o_Goals, O.n_Goals_knows, Nat.le_of_ble_eq_true rfl, ?_⟩
        walk_at "r"
        have hK9 : Jv.Dv K H9 (.ref tk) (.tuple [.bool k0, .bool k1]) := .tup hT (alk.same s9)
        have hW9 := (hW8.same s9).ins (o := .ins T.C_Goals dx (putF "knows" (.ref tk) [("ladder", .int l), ("wanted", .ref t2)])) ha9
        have hKA := hK9.ins (o := .ins T.C_Goals dx (putF "knows" (.ref tk) [("ladder", .int l), ("wanted", .ref t2)])) ha9
        have ht9 := s9 _ _ ht8
        have htA : upd H9 a (.ins T.C_Goals dx (putF "knows" (.ref tk) [("ladder", .int l), ("wanted", .ref t2)])) t = some (.tup [.int p0, .int q0]) := Jv.kpO ht9 fun e => by rw [e, ha9] at ht9; cases ht9
        have oldA : ∀ b o, b ≠ a → H b = some o → upd H9 a (.ins T.C_Goals dx (putF "knows" (.ref tk) [("ladder", .int l), ("wanted", .ref t2)])) b = some o := fun b o nb hb => Jv.kpO (s9 _ _ (old8 b o nb hb)) nb
        have haA : upd H9 a (.ins T.C_Goals dx (putF "knows" (.ref tk) [("ladder", .int l), ("wanted", .ref t2)])) a = some (.ins T.C_Goals dx [("ladder", .int l), ("wanted", .ref t2), ("knows", .ref tk)]) := upd_same
        generalize upd H9 a (.ins T.C_Goals dx (putF "knows" (.ref tk) [("ladder", .int l), ("wanted", .ref t2)])) = HA at hW9 hKA htA oldA haA ⊢
        show sFld K (tVar 0) (tVar 4) "sides" _ _ _
        refine Jv.r_sfld ?_
        walk_at "r"
        refine ⟨a, _, dx, _, rfl, haA, O.o_Goals, O.n_Goals_sides, Nat.le_of_ble_eq_true rfl, ?_⟩
        refine qk _ (fun b o nb hb => Jv.kpO (oldA b o nb hb) nb) ⟨dx, _, _, _, upd_same, hW9.ins haA, hKA.ins haA, .tup (Jv.sqT_at (Jv.kpO htA fun e => by rw [e, haA] at htA; cases htA)) (.cons (.int _) (.cons (.int _) .nil))⟩
end
end K04

namespace K04
open PySem PySem.Spec PyProof.Rows L2
/-! ### lots, orders, couples, sides: of data -/
def few60 (d : PyData) : Prop := ∀ ds, Jv.seqD d = some ds → ds.length ≤ 60
def intsD : List PyData → Option (List Int)
  | [] => some []
  | .int i :: r => (intsD r).map (i :: ·)
  | _ :: _ => none
theorem intsD_map : ∀ ns : List Int, intsD (ns.map .int) = some ns
  | [] => rfl
  | a :: r => by simp [intsD, intsD_map r]
theorem intsD_of : ∀ {ds : List PyData} {ns : List Int}, intsD ds = some ns → ds = ns.map .int
  | [], ns, h => by cases h; rfl
  | d :: r, ns, h => by
    cases d with
    | int i =>
      cases e : intsD r with
      | none => simp [intsD, e] at h
      | some m => simp [intsD, e] at h; subst h; rw [intsD_of e]; rfl
    | _ => cases h
def kindsD (k : Int) (d : PyData) : Bool := match Jv.seqD d with
  | some ds => ds.all fun e => Jv.wholeD e (.int 0) (.int (k - 1))
  | none => false
def lotD (k : Int) (d : PyData) : Bool := match Jv.seqD d with
  | some ds => match intsD ds with
    | some ns => decide (Jv.lotP k ns)
    | none => false
  | none => false
def orderD (k : Int) (d : PyData) : Bool := match Jv.seqD d with
  | some ds => match intsD ds with
    | some ns => decide (Jv.orderP k ns)
    | none => false
  | none => false
def coupleD (p q : Int) (d : PyData) : Bool := match Jv.seqD d with
  | some [a, b] => Jv.wholeD a (.int 0) (.int (p - 1)) && Jv.wholeD b (.int 0) (.int (q - 1))
  | _ => false
theorem kinds_true {k : Int} {d : PyData} (h : kindsD k d = true) : ∃ ns, Jv.seqD d = some (ns.map .int) ∧ Jv.inK k ns := by
  unfold kindsD at h
  cases e : Jv.seqD d with
  | none => rw [e] at h; cases h
  | some ds =>
    rw [e] at h
    have key : ∀ ds : List PyData, (ds.all fun e => Jv.wholeD e (.int 0) (.int (k - 1))) = true → ∃ ns, ds = ns.map .int ∧ Jv.inK k ns := by
      intro ds
      induction ds with
      | nil => intro _; exact ⟨[], rfl, fun _ h => by cases h⟩
      | cons a r ih =>
        intro h
        rw [List.all_cons, Bool.and_eq_true] at h
        obtain ⟨i, rfl, h1, h2⟩ := Jv.wholeD_int h.1
        obtain ⟨ns, rfl, h3⟩ := ih h.2
        refine ⟨i :: ns, rfl, fun n hn => ?_⟩
        rcases List.mem_cons.mp hn with rfl | hn
        · exact ⟨h1, h2⟩
        · exact h3 n hn
    obtain ⟨ns, rfl, h3⟩ := key ds h
    exact ⟨ns, rfl, h3⟩
theorem kinds_of {k : Int} {d : PyData} {ns : List Int} (e : Jv.seqD d = some (ns.map .int)) (h : Jv.inK k ns) : kindsD k d = true := by
  unfold kindsD; rw [e]
  show ((ns.map PyData.int).all _) = true
  rw [List.all_map, List.all_eq_true]
  intro n hn
  obtain ⟨a, b⟩ := h n hn
  show (decide (0 ≤ n) && decide (n ≤ k - 1)) = true
  rw [decide_eq_true a, decide_eq_true b]; rfl
theorem lotD_of {k : Int} {d : PyData} {ns : List Int} (e : Jv.seqD d = some (ns.map .int)) : lotD k d = decide (Jv.lotP k ns) := by
  unfold lotD; rw [e]; dsimp only; rw [intsD_map]
theorem orderD_of {k : Int} {d : PyData} {ns : List Int} (e : Jv.seqD d = some (ns.map .int)) : orderD k d = decide (Jv.orderP k ns) := by
  unfold orderD; rw [e]; dsimp only; rw [intsD_map]
theorem lotD_false {k : Int} {d : PyData} (h : kindsD k d = false) : lotD k d = false := by
  cases e : Jv.seqD d with
  | none => unfold lotD; rw [e]
  | some ds =>
    cases e2 : intsD ds with
    | none => unfold lotD; rw [e]; dsimp only; rw [e2]
    | some ns =>
      obtain rfl := intsD_of e2
      rw [lotD_of e, decide_eq_false]
      rintro ⟨h1, _⟩
      rw [kinds_of e h1] at h; cases h
theorem orderD_false {k : Int} {d : PyData} (h : kindsD k d = false) : orderD k d = false := by
  cases e : Jv.seqD d with
  | none => unfold orderD; rw [e]
  | some ds =>
    cases e2 : intsD ds with
    | none => unfold orderD; rw [e]; dsimp only; rw [e2]
    | some ns =>
      obtain rfl := intsD_of e2
      rw [orderD_of e, decide_eq_false]
      rintro ⟨h1, _⟩
      rw [kinds_of e h1] at h; cases h
def sp_are_kinds (K : PySem.W.Frag) : Sp := fun vs H Q _ => ∃ x d k, vs = [x, .int k] ∧ Jv.Dv K H x d ∧ few60 d ∧ ∀ H', Same H H' → Q (.bl (kindsD k d)) H'
def sp_is_lot (K : PySem.W.Frag) : Sp := fun vs H Q _ => ∃ x d k, vs = [x, .int k] ∧ Jv.Dv K H x d ∧ few60 d ∧ ∀ H', Same H H' → Q (.bl (lotD k d)) H'
def sp_is_order (K : PySem.W.Frag) : Sp := fun vs H Q _ => ∃ x d k, vs = [x, .int k] ∧ Jv.Dv K H x d ∧ few60 d ∧ (0 ≤ k ∧ k ≤ 60) ∧ ∀ H', Same H H' → Q (.bl (orderD k d)) H'
def sp_check_lot (K : PySem.W.Frag) (C : Addr) : Sp := fun vs H Q E => ∃ x d k v, vs = [x, .int k, v] ∧ Jv.Dv K H x d ∧ few60 d ∧
  ((∃ ns, Jv.seqD d = some (ns.map .int) ∧ Jv.lotP k ns ∧ ∀ t H', Same H H' → SqT K H' t (ns.map V.int) → Q (.ref t) H') ∨ (lotD k d = false ∧ ∀ e H', Same H H' → H' e = some (.xd [("side", v)]) → E (.ref C) (some e) H'))
def sp_check_order (K : PySem.W.Frag) (C : Addr) : Sp := fun vs H Q E => ∃ x d k v, vs = [x, .int k, v] ∧ Jv.Dv K H x d ∧ few60 d ∧ (0 ≤ k ∧ k ≤ 60) ∧
  ((∃ ns, Jv.seqD d = some (ns.map .int) ∧ Jv.orderP k ns ∧ ∀ t H', Same H H' → SqT K H' t (ns.map V.int) → Q (.ref t) H') ∨ (orderD k d = false ∧ ∀ e H', Same H H' → H' e = some (.xd [("side", v)]) → E (.ref C) (some e) H'))
def sp_check_side (K : PySem.W.Frag) (C : Addr) : Sp := fun vs H Q E => ∃ x d, vs = [x] ∧ Jv.Dv K H x d ∧ (Jv.wholeD d (.int 0) (.int 1) = true → Q x H) ∧ (Jv.wholeD d (.int 0) (.int 1) = false → E (.ref C) none H)
def sp_check_couple (K : PySem.W.Frag) (C : Addr) : Sp := fun vs H Q E => ∃ sd p q x d, vs = [sd, x] ∧ Jv.Sk K H sd [.int p, .int q] ∧ Jv.Dv K H x d ∧
  ((∃ e f, Jv.seqD d = some [.int e, .int f] ∧ (0 ≤ e ∧ e < p) ∧ (0 ≤ f ∧ f < q) ∧ ∀ t H', Same H H' → SqT K H' t [.int e, .int f] → Q (.ref t) H') ∨ (coupleD p q d = false ∧ ∀ H', Same H H' → E (.ref C) none H'))
def sp_raised_end : Sp := fun vs H Q _ => ∃ e b : Int, vs = [.int e, .int b] ∧ Q (.int (if e < 0 then e - b else e + b)) H
section
variable {P : Program} {w : World} {K : PySem.W.Frag} {mg : Str → Option Value} {base : Heap}
theorem ok_are_kinds (T : Tx) (O : Ok K mg T) : FnOk P w K mg base CX0 2 T.f_are_kinds T.d_are_kinds ["thing", "kinds"] (sp_are_kinds K) := by
  refine O.F_are_kinds.ok sc_are_kinds (fun vs H Q E h => by obtain ⟨_, _, _, rfl, _⟩ := h; rfl) (fun cdv A outer s H vs Q E hr h => ?_)
  obtain ⟨x, d, k, rfl, hx, fw, q⟩ := h
  refine ⟨_, (pss_one (ps_ret (pe_and (pe_call (ok_is_sequence T O) (hr.mono (by decide)) (by rfl) O.m_is_sequence O.F_is_sequence.kp O.b_is_sequence .nil pass0 (pa_cons (pv 0) pa_nil)) (pe_one (pe_callB (r := rAll K) (cr_all rfl) (by rfl) O.z_all (by decide +kernel) (pa_cons (pe_lc (own := [("kind", 2)]) (by rfl) sc_are_kinds.nd (Jv.piOr (show PI _ _ _ (iList K _) from pi_list (pv 0)) (show PI _ _ _ (iTup K _) from pi_tup (pv 0))) (blkOk_by (own := [("kind", 2)]) (N := ["thing", "kinds", "kind"]) (sc := defScope s_are_kinds) (scope := ({ kind := .function, names := [(".0", .local), ("kind", .local), ("is_whole", .globalImplicit), ("kinds", .free)], isGenerator := false, isCoroutine := false } : Scope)) (by decide +kernel)) (fun _ _ _ _ _ => (pg_name (i := 2) sc_are_kinds.nd rfl (Or.inl rfl))) (fun _ _ _ _ _ => pts_nil) (fun _ _ _ _ _ => (pe_call (ok_is_whole T O) (hr.mono (by decide)) (by rfl) O.m_is_whole O.F_is_whole.kp O.b_is_whole .nil pass0 (pa_cons (pv 2) (pa_cons pe_int (pa_cons (pe_op op_sub (pv 1) pe_int) pa_nil)))))) pa_nil)))))), ?_⟩
  walk_at "r"
  refine ⟨_, _, rfl, hx, fun H1 s1 => ?_⟩
  walk_at "r"
  cases e : Jv.seqD d with
  | none =>
    have e2 : kindsD k d = false := by unfold kindsD; rw [e]
    rw [e2] at q
    walk_at "r"; exact q _ s1
  | some ds =>
    have e2 : kindsD k d = ds.all fun e => Jv.wholeD e (.int 0) (.int (k - 1)) := by unfold kindsD; rw [e]
    rw [e2] at q
    have f60 := fw ds e
    obtain ⟨xs, sq0, al⟩ := hx.sk e
    have sq := sq0.same s1
    have al1 := al.same s1
    have ll := al.len
    walk_at "r"
    refine Jv.lcS2 (K := K) (N := []) (j := 2) (i := 0) rfl sq .nil (ds.map fun e => .bool (Jv.wholeD e (.int 0) (.int (k - 1)))) (by rw [List.length_map]; omega) (by omega) (fun i v e' D H2 hi hv he s2 hN hD P hP => ?_) (fun D ys H2 s2 hD eD dv _ => ?_)
    · walk_at "r"
      obtain ⟨e0, h0e, hv2⟩ := al1.at hv
      rw [List.getElem?_map, h0e] at he
      obtain rfl := Option.some.inj he
      refine ⟨_, _, _, _, rfl, hv2.same s2, .inr ⟨_, rfl⟩, .inr ⟨_, rfl⟩, ?_⟩
      rw [hv2.whole]
      exact hP _ _ (Same.refl _) (.bl _)
    · walk_at "r"
      rw [Jv.hide_nil, show (ds.map fun e => PyData.bool (Jv.wholeD e (.int 0) (.int (k - 1)))) = (ds.map fun e => Jv.wholeD e (.int 0) (.int (k - 1))).map PyData.bool by rw [List.map_map]; rfl] at dv
      rw [Jv.dv_bools dv] at eD
      refine ⟨D, _, rfl, Jv.sqL_at eD, ?_⟩
      rw [List.all_map]
      exact q _ (s1.trans s2)
theorem ok_is_lot (T : Tx) (O : Ok K mg T) : FnOk P w K mg base CX0 3 T.f_is_lot T.d_is_lot ["thing", "kinds"] (sp_is_lot K) := by
  refine O.F_is_lot.ok sc_is_lot (fun vs H Q E h => by obtain ⟨_, _, _, rfl, _⟩ := h; rfl) (fun cdv A outer s H vs Q E hr h => ?_)
  obtain ⟨x, d, k, rfl, hx, fw, q⟩ := h
  refine ⟨_, (pss_one (ps_ret (pe_and (pe_call (ok_are_kinds T O) (hr.mono (by decide)) (by rfl) O.m_are_kinds O.F_are_kinds.kp O.b_are_kinds .nil pass0 (pa_cons (pv 0) (pa_cons (pv 1) pa_nil))) (pe_and (pe_cmpR op_gt (pe_callB (r := Jv.rLenK K) Jv.cr_len (by rfl) O.z_len (by decide +kernel) (pa_cons (pv 0) pa_nil)) pe_int (nomark _)) (pe_one (pe_cmpR (r := rEqD K) (op_eqD hr.units) (pe_callTy (r := Jv.rListOf K) call_list_of (by rfl) O.z_list (by decide +kernel) (pa_cons (pv 0) pa_nil)) (pe_callB (r := rSortedSet w) (cr_sortedSet rfl) (by rfl) O.z_sorted (by decide +kernel) (pa_cons (pe_callTy (r := Jv.rSetI K w) (Jv.cr_setI rfl) (by rfl) O.z_set (by decide +kernel) (pa_cons (pv 0) pa_nil)) pa_nil)) (nomark _))))))), ?_⟩
  walk_at "r"
  refine ⟨_, _, _, rfl, hx, fw, fun H1 s1 => ?_⟩
  walk_at "r"
  cases ek : kindsD k d with
  | false =>
    rw [lotD_false ek] at q
    walk_at "r"; exact q _ s1
  | true =>
    obtain ⟨ns, e, hk⟩ := kinds_true ek
    have few := fw _ e
    rw [List.length_map] at few
    obtain ⟨xs, sq0, al⟩ := hx.sk e
    obtain rfl := Jv.dv_intsV al
    have sq := sq0.same s1
    rw [lotD_of e] at q
    walk_at "r"
    refine sq.len ?_
    walk_at "r"
    rw [List.length_map]
    refine Jv.r_dec (fun h0 => ?_) (fun h0 => ?_)
    · walk_at "r"
      obtain ⟨a, rfl, hq⟩ := sq
      refine ⟨a, _, rfl, hq, fun l hl => ?_⟩
      walk_at "r"
      refine ⟨a, ns, rfl, hq.imp (fun h => Jv.sqL_new h hl) (fun h => Jv.sqT_new h hl), by omega, fun p c hp hc => ?_⟩
      walk_at "r"
      refine ⟨p, _, c, rfl, upd_same, by omega, fun ms r hs hm _ hr => ?_⟩
      walk_at "r"
      refine ⟨_, _, Jv.dpL (by walk_at "sq"), Jv.dpL (by walk_at "sq"), Jv.shapedL _, Jv.shapedL _, ?_⟩
      rw [Jv.eqvL]
      have e3 : decide (Jv.lotP k ns) = decide (ns = ms) := by
        have h1 := Jv.set_eq hs hm
        have : Jv.lotP k ns ↔ ns = ms := ⟨fun h => h1.mpr h.2.2, fun h => ⟨hk, by omega, h1.mp h⟩⟩
        simp only [this]
      rw [e3] at q
      exact q _ (((s1.trans (Jv.same_new hl)).trans (Jv.same_new hp)).trans (Jv.same_new hr))
    · rw [decide_eq_false (p := Jv.lotP k ns) fun h => h0 (by have := h.2.1; omega)] at q
      walk_at "r"; exact q _ s1
theorem ok_is_order (T : Tx) (O : Ok K mg T) : FnOk P w K mg base CX0 3 T.f_is_order T.d_is_order ["thing", "many"] (sp_is_order K) := by
  refine O.F_is_order.ok sc_is_order (fun vs H Q E h => by obtain ⟨_, _, _, rfl, _⟩ := h; rfl) (fun cdv A outer s H vs Q E hr h => ?_)
  obtain ⟨x, d, k, rfl, hx, fw, ⟨k0, k1⟩, q⟩ := h
  refine ⟨_, (pss_one (ps_ret (pe_and (pe_call (ok_are_kinds T O) (hr.mono (by decide)) (by rfl) O.m_are_kinds O.F_are_kinds.kp O.b_are_kinds .nil pass0 (pa_cons (pv 0) (pa_cons (pv 1) pa_nil))) (pe_one (pe_cmpR (r := rEqD K) (op_eqD hr.units) (pe_callB (r := Jv.rSortIT K) Jv.cr_sortIT (by rfl) O.z_sorted (by decide +kernel) (pa_cons (pv 0) pa_nil)) (pe_listRg rfl (by rfl) O.z_list (prg_1 (by rfl) O.z_range (pv 1))) (nomark _)))))), ?_⟩
  walk_at "r"
  refine ⟨_, _, _, rfl, hx, fw, fun H1 s1 => ?_⟩
  walk_at "r"
  cases ek : kindsD k d with
  | false =>
    rw [orderD_false ek] at q
    walk_at "r"; exact q _ s1
  | true =>
    obtain ⟨ns, e, hk⟩ := kinds_true ek
    obtain ⟨xs, sq0, al⟩ := hx.sk e
    obtain rfl := Jv.dv_intsV al
    obtain ⟨a, rfl, hq⟩ := sq0.same s1
    rw [orderD_of e] at q
    walk_at "r"
    refine ⟨a, ns, rfl, hq, fun ms r pm so hr => ?_⟩
    refine ⟨_, rfl, k, rfl, RgOk.of_le (by omega) (by omega) (by omega) (by omega), fun l hl => ?_⟩
    walk_at "r"
    rw [Jv.rgV0]
    refine ⟨_, _, Jv.dpL (by walk_at "sq"), Jv.dpL (by walk_at "sq"), Jv.shapedL _, Jv.shapedL _, ?_⟩
    rw [Jv.eqvL]
    have e3 : decide (Jv.orderP k ns) = decide (ms = (List.range k.toNat).map fun (i : Nat) => (i : Int)) := by
      have : Jv.orderP k ns ↔ ms = (List.range k.toNat).map fun (i : Nat) => (i : Int) :=
        ⟨fun h => Jv.sorted_perm so (Jv.range_sorted _) (pm.trans h.2), fun h => ⟨hk, by rw [← h]; exact pm.symm⟩⟩
      simp only [this]
    rw [e3] at q
    exact q _ ((s1.trans (Jv.same_new hr)).trans (Jv.same_new hl))
theorem ok_BadLotu_initu (T : Tx) (O : Ok K mg T) : FnOk P w K mg base CX0 1 T.f_BadLotu_initu T.d_BadLotu_initu ["self", "side"] (sp_BadX_init T.C_BadLot "side") := by
  refine O.F_BadLotu_initu.ok sc_BadLotu_initu (fun vs H Q E h => by obtain ⟨_, _, rfl, _⟩ := h; rfl) (fun cdv A outer s H vs Q E hr h => ?_)
  obtain ⟨a, v, rfl, ha, q⟩ := h
  refine ⟨_, (pss_one (ps_ost (pv 0) (pv 1))), ?_⟩
  exact ⟨_, rfl, _, rfl, a, T.C_BadLot, rfl, O.x_BadLot.o, O.n_BadLot_side, .inl ⟨ha, fun d hd ne => q d hd ne⟩⟩
theorem ok_check_lot (T : Tx) (O : Ok K mg T) : FnOk P w K mg base (L2.CX P w) 4 T.f_check_lot T.d_check_lot ["lot", "kinds", "side"] (sp_check_lot K T.C_BadLot) := by
  refine O.F_check_lot.okX sc_check_lot (fun vs H Q E h => by obtain ⟨_, _, _, _, rfl, _⟩ := h; rfl) (fun cdv A outer s H vs Q E hr h => ?_)
  obtain ⟨x, d, k, v, rfl, hx, fw, q⟩ := h
  refine ⟨_, (pss_cons (ps_if (pt_not (pt_val (pe_call (ok_is_lot T O) (hr.mono (by decide)) (by rfl) O.m_is_lot O.F_is_lot.kp O.b_is_lot .nil pass0 (pa_cons (pv 0) (pa_cons (pv 1) pa_nil))))) (pss_one (ps_raise rfl (takes_of rfl rfl rfl rfl) (pmk_oex O.x_BadLot.o O.x_BadLot.n O.x_BadLot.y (ok_BadLotu_initu T O) (hr.mono (by decide)) O.b_BadLotu_initu .nil pass0 (by rfl) O.m_BadLot (pa_cons (pv 2) pa_nil)))) pss_nil)
  (pss_one (ps_ret (pe_callTy (r := Jv.rTupOf K) call_tuple_of (by rfl) O.z_tuple (by decide +kernel) (pa_cons (pv 0) pa_nil))))), ?_⟩
  walk_at "r"
  refine ⟨_, _, _, rfl, hx, fw, fun H1 s1 => ?_⟩
  walk_at "r"
  rcases q with ⟨ns, e, hp, q⟩ | ⟨e, q⟩
  · rw [lotD_of e, decide_eq_true hp]
    walk_at "r"
    obtain ⟨xs, sq0, al⟩ := hx.sk e
    obtain rfl := Jv.dv_intsV al
    exact (sq0.same s1).tup fun t H2 s2 ht => q t _ (s1.trans s2) ht
  · rw [e]
    walk_at "r"
    refine ⟨_, rfl, Nat.le_of_ble_eq_true rfl, fun a ha => ⟨a, v, rfl, upd_same, fun d hd ne => ⟨rfl, d, _, upd_same, by rw [upd_ne ne]; exact upd_same, by rw [upd_ne ne] at hd; exact hd, ?_⟩⟩⟩
    rw [upd_ne ne] at hd
    exact q d _ (s1.trans (raise_same ha hd)) upd_same
theorem ok_check_side_order (T : Tx) (O : Ok K mg T) : FnOk P w K mg base (L2.CX P w) 4 T.f_check_side_order T.d_check_side_order ["order", "kinds", "side"] (sp_check_order K T.C_BadLot) := by
  refine O.F_check_side_order.okX sc_check_side_order (fun vs H Q E h => by obtain ⟨_, _, _, _, rfl, _⟩ := h; rfl) (fun cdv A outer s H vs Q E hr h => ?_)
  obtain ⟨x, d, k, v, rfl, hx, fw, kb, q⟩ := h
  refine ⟨_, (pss_cons (ps_if (pt_not (pt_val (pe_call (ok_is_order T O) (hr.mono (by decide)) (by rfl) O.m_is_order O.F_is_order.kp O.b_is_order .nil pass0 (pa_cons (pv 0) (pa_cons (pv 1) pa_nil))))) (pss_one (ps_raise rfl (takes_of rfl rfl rfl rfl) (pmk_oex O.x_BadLot.o O.x_BadLot.n O.x_BadLot.y (ok_BadLotu_initu T O) (hr.mono (by decide)) O.b_BadLotu_initu .nil pass0 (by rfl) O.m_BadLot (pa_cons (pv 2) pa_nil)))) pss_nil)
  (pss_one (ps_ret (pe_callTy (r := Jv.rTupOf K) call_tuple_of (by rfl) O.z_tuple (by decide +kernel) (pa_cons (pv 0) pa_nil))))), ?_⟩
  walk_at "r"
  refine ⟨_, _, _, rfl, hx, fw, kb, fun H1 s1 => ?_⟩
  walk_at "r"
  rcases q with ⟨ns, e, hp, q⟩ | ⟨e, q⟩
  · rw [orderD_of e, decide_eq_true hp]
    walk_at "r"
    obtain ⟨xs, sq0, al⟩ := hx.sk e
    obtain rfl := Jv.dv_intsV al
    exact (sq0.same s1).tup fun t H2 s2 ht => q t _ (s1.trans s2) ht
  · rw [e]
    walk_at "r"
    refine ⟨_, rfl, Nat.le_of_ble_eq_true rfl, fun a ha => ⟨a, v, rfl, upd_same, fun d hd ne => ⟨rfl, d, _, upd_same, by rw [upd_ne ne]; exact upd_same, by rw [upd_ne ne] at hd; exact hd, ?_⟩⟩⟩
    rw [upd_ne ne] at hd
    exact q d _ (s1.trans (raise_same ha hd)) upd_same
theorem ok_check_side (T : Tx) (O : Ok K mg T) : FnOk P w K mg base (L2.CX P w) 2 T.f_check_side T.d_check_side ["side"] (sp_check_side K T.C_BadSide) := by
  refine O.F_check_side.okX sc_check_side (fun vs H Q E h => by obtain ⟨_, _, rfl, _⟩ := h; rfl) (fun cdv A outer s H vs Q E hr h => ?_)
  obtain ⟨x, d, rfl, hx, q1, q2⟩ := h
  refine ⟨_, (pss_cons (ps_if (pt_not (pt_val (pe_call (ok_is_whole T O) (hr.mono (by decide)) (by rfl) O.m_is_whole O.F_is_whole.kp O.b_is_whole .nil pass0 (pa_cons (pv 0) (pa_cons (pe_glob (v := .int (0)) (by rfl) O.c_EAST ⟨_, rfl⟩) (pa_cons (pe_glob (v := .int (1)) (by rfl) O.c_WEST ⟨_, rfl⟩) pa_nil)))))) (pss_one (ps_raise rfl (takes_of rfl rfl rfl rfl) (Jv.pmk_own0 PySem.F.excBase_ValueError O.e_BadSide.x O.m_BadSide O.e_BadSide.k (O.e_BadSide.raises) (by rfl)))) pss_nil)
  (pss_one (ps_ret (pv 0)))), ?_⟩
  walk_at "r"
  refine ⟨_, _, _, _, rfl, hx, .inr ⟨_, rfl⟩, .inr ⟨_, rfl⟩, ?_⟩
  rw [hx.whole]
  walk_at "r"
  cases e : Jv.wholeD d (.int 0) (.int 1) with
  | true => walk_at "r"; exact q1 e
  | false => walk_at "r"; exact q2 e
theorem ok_raised_end (T : Tx) (O : Ok K mg T) : FnOk P w K mg base CX0 1 T.f_raised_end T.d_raised_end ["end", "by"] sp_raised_end := by
  refine O.F_raised_end.ok sc_raised_end (fun vs H Q E h => by obtain ⟨_, _, rfl, _⟩ := h; rfl) (fun cdv A outer s H vs Q E hr h => ?_)
  obtain ⟨e, b, rfl, q⟩ := h
  refine ⟨_, (pss_one (ps_ret (pe_ifExp (pt_cmpR op_lt (pv 0) pe_int (nomark _)) (pe_op op_sub (pv 0) (pv 1)) (pe_op op_add (pv 0) (pv 1))))), ?_⟩
  walk_at "r"
  by_cases c : e < 0
  · rw [if_pos c] at q
    rw [decide_eq_true c]
    walk_at "r"; exact q
  · rw [if_neg c] at q
    rw [decide_eq_false c]
    walk_at "r"; exact q
end
end K04

namespace K04
open PySem PySem.Spec PyProof.Rows L2
/-! ### couples -/
section
variable {P : Program} {w : World} {K : PySem.W.Frag} {mg : Str → Option Value} {base : Heap}
theorem ok_check_couple (T : Tx) (O : Ok K mg T) : FnOk P w K mg base (L2.CX P w) 2 T.f_check_couple T.d_check_couple ["sides", "couple"] (sp_check_couple K T.C_BadCouple) := by
  refine O.F_check_couple.okX sc_check_couple (fun vs H Q E h => by obtain ⟨_, _, _, _, _, rfl, _⟩ := h; rfl) (fun cdv A outer s H vs Q E hr h => ?_)
  obtain ⟨sd, p, q, x, d, rfl, hs, hx, qq⟩ := h
  have ex : coupleD p q d = false → ∀ H', Same H H' → E (.ref T.C_BadCouple) none H' := fun e H' s' => by
    rcases qq with ⟨a, b, e1, ⟨a0, a1⟩, ⟨b0, b1⟩, _⟩ | ⟨_, h⟩
    · unfold coupleD at e
      rw [e1] at e
      have : ((decide (0 ≤ a) && decide (a ≤ p - 1)) && (decide (0 ≤ b) && decide (b ≤ q - 1))) = false := e
      rw [decide_eq_true a0, decide_eq_true b0, decide_eq_true (p := a ≤ p - 1) (by omega), decide_eq_true (p := b ≤ q - 1) (by omega)] at this
      cases this
    · exact h H' s'
  refine ⟨_, (pss_cons (ps_if (PW.pt (pw_or (pt_not (pt_val (pe_call (ok_is_sequence T O) (hr.mono (by decide)) (by rfl) O.m_is_sequence O.F_is_sequence.kp O.b_is_sequence .nil pass0 (pa_cons (pv 1) pa_nil)))) (pw_or1 (pt_cmpR op_ne (pe_callB (r := Jv.rLenK K) Jv.cr_len (by rfl) O.z_len (by decide +kernel) (pa_cons (pv 1) pa_nil)) pe_int (nomark _))))) (pss_one (ps_raise rfl (takes_of rfl rfl rfl rfl) (Jv.pmk_own0 PySem.F.excBase_ValueError O.e_BadCouple.x O.m_BadCouple O.e_BadCouple.k (O.e_BadCouple.raises) (by rfl)))) pss_nil)
  (pss_cons (ps_for (passes_of rfl) rfl (show PI _ _ _ (iTup K _) from pi_tup (pe_tup (pa_cons (pe_glob (v := .int (0)) (by rfl) O.c_EAST ⟨_, rfl⟩) (pa_cons (pe_glob (v := .int (1)) (by rfl) O.c_WEST ⟨_, rfl⟩) pa_nil)))) (pg_name (i := 2) sc_check_couple.nd rfl (Or.inl rfl)) (pss_one (ps_if (pt_not (pt_val (pe_call (ok_is_whole T O) (hr.mono (by decide)) (by rfl) O.m_is_whole O.F_is_whole.kp O.b_is_whole .nil pass0 (pa_cons (pe_ix (r := rIx K) ix_seq (pv 1) (pv 2) (fun _ _ => rfl)) (pa_cons pe_int (pa_cons (pe_op op_sub (pe_ix (r := rIx K) ix_seq (pv 0) (pv 2) (fun _ _ => rfl)) pe_int) pa_nil)))))) (pss_one (ps_raise rfl (takes_of rfl rfl rfl rfl) (Jv.pmk_own0 PySem.F.excBase_ValueError O.e_BadCouple.x O.m_BadCouple O.e_BadCouple.k (O.e_BadCouple.raises) (by rfl)))) pss_nil)))
  (pss_one (ps_ret (pe_callTy (r := Jv.rTupOf K) call_tuple_of (by rfl) O.z_tuple (by decide +kernel) (pa_cons (pv 1) pa_nil)))))), ?_⟩
  walk_at "r"
  refine ⟨_, _, rfl, hx, fun H1 s1 => ?_⟩
  walk_at "r"
  cases e : Jv.seqD d with
  | none =>
    have e2 : coupleD p q d = false := by unfold coupleD; rw [e]
    walk_at "r"; exact ex e2 _ s1
  | some ds =>
    obtain ⟨xs, sq0, al⟩ := hx.sk e
    have sq := sq0.same s1
    walk_at "r"
    refine sq.len ?_
    walk_at "r"
    refine Jv.r_ndecI (fun hl => ?_) (fun hl => ?_)
    · have e2 : coupleD p q d = false := by
        unfold coupleD; rw [e]
        split
        · rename_i e3; cases e3; rw [al.len] at hl; exact absurd rfl hl
        · rfl
      walk_at "r"; exact ex e2 _ s1
    · obtain ⟨y, z, rfl⟩ : ∃ y z, xs = [y, z] := by
        match xs, hl with
        | [y, z], _ => exact ⟨y, z, rfl⟩
        | [], h => simp at h
        | [_], h => simp at h
        | _ :: _ :: _ :: r, h => simp at h; omega
      cases al with
      | cons h1 al =>
      cases al with
      | cons h2 al =>
      cases al
      rename_i d1 d2
      have e2 : coupleD p q d = (Jv.wholeD d1 (.int 0) (.int (p - 1)) && Jv.wholeD d2 (.int 0) (.int (q - 1))) := by unfold coupleD; rw [e]
      rw [e2] at ex
      walk_at "r"
      intro t ht
      have s2 := s1.trans (Jv.same_new (u := .tup [.int 0, .int 1]) ht)
      have sq2 := sq0.same s2
      refine ⟨t, rfl, ⟨_, Jv.sqT_at upd_same⟩, ?_⟩
      refine for_tup (xs := [.int 0, .int 1]) (fun i σ H2 => ∃ y2, σ = [some sd, some x, y2] ∧ H2 = upd H1 t (.tup [.int 0, .int 1]) ∧ (1 ≤ i → Jv.wholeD d1 (.int 0) (.int (p - 1)) = true) ∧ (2 ≤ i → Jv.wholeD d2 (.int 0) (.int (q - 1)) = true)) ⟨_, rfl, rfl, fun h => absurd h (by decide), fun h => absurd h (by decide)⟩ (fun i σ H2 _ ⟨_, _, e3, _⟩ => by rw [e3]; exact Jv.sqT_at upd_same) ?_ ?_
      · rintro i v σ H2 hv ⟨y2, rfl, rfl, c1, c2⟩
        match i, hv with
        | 0, hv =>
          cases hv
          walk_at "r"
          refine sq2.ix (v := y) rfl ?_
          walk_at "r"
          refine (hs.same s2).ix (v := .int p) rfl ?_
          walk_at "r"
          refine ⟨_, _, _, _, rfl, h1.same s2, .inr ⟨_, rfl⟩, .inr ⟨_, rfl⟩, ?_⟩
          rw [h1.whole]
          walk_at "r"
          cases ey : Jv.wholeD d1 (.int 0) (.int (p - 1)) with
          | true => walk_at "r"; exact ⟨_, rfl, rfl, fun _ => rfl, fun h => absurd h (by decide)⟩
          | false => walk_at "r"; exact ex (by rw [ey]; rfl) _ s2
        | 1, hv =>
          cases hv
          walk_at "r"
          refine sq2.ix (v := z) rfl ?_
          walk_at "r"
          refine (hs.same s2).ix (v := .int q) rfl ?_
          walk_at "r"
          refine ⟨_, _, _, _, rfl, h2.same s2, .inr ⟨_, rfl⟩, .inr ⟨_, rfl⟩, ?_⟩
          rw [h2.whole]
          walk_at "r"
          cases ez : Jv.wholeD d2 (.int 0) (.int (q - 1)) with
          | true => walk_at "r"; exact ⟨_, rfl, rfl, fun _ => c1 (by decide), fun _ => rfl⟩
          | false => walk_at "r"; exact ex (by rw [ez, Bool.and_false]) _ s2
      · rintro σ H2 ⟨y2, rfl, rfl, c1, c2⟩
        have w1 := c1 (by decide)
        have w2 := c2 (by decide)
        obtain ⟨i1, rfl, _, _⟩ := Jv.wholeD_int w1
        obtain ⟨i2, rfl, _, _⟩ := Jv.wholeD_int w2
        cases h1; cases h2
        walk_at "r"
        rcases qq with ⟨a, b, e1, _, _, k⟩ | ⟨hf, _⟩
        · rw [e] at e1
          cases e1
          exact sq2.tup fun t2 H3 s3 ht2 => k t2 _ (s2.trans s3) ht2
        · rw [e2, w1, w2] at hf; cases hf
end
end K04

namespace K04
open PySem PySem.Spec PyProof.Rows L2
/-! ### goals made of goals: what they are -/
def lineT (line : List (List Int)) : PyData := .tuple (line.map fun ns => .tuple (ns.map .int))
def wantT (L : List (List (List Int))) : PyData := .tuple (L.map lineT)
theorem want_eq {l : Int} {lls : List (List (List Int))} : wantD l lls = wantT (lls.map fun line => line.map (neatI l)) := by
  unfold wantD wantT
  rw [List.map_map]
  congr 1
  refine List.map_congr_left fun line _ => ?_
  show lineD l line = lineT (line.map (neatI l))
  unfold lineD lineT
  rw [List.map_map]; rfl
theorem mem_neat {l n : Int} {ns : List Int} : n ∈ neatI l ns ↔ (-l ≤ n ∧ n ≤ l) ∧ n ∈ ns := by
  unfold neatI
  rw [List.mem_filter, decide_eq_true_iff, List.mem_map]
  refine and_congr_left fun _ => ⟨?_, fun h => ⟨(n + l).toNat, by rw [List.mem_range]; omega, by omega⟩⟩
  rintro ⟨i, hi, rfl⟩
  rw [List.mem_range] at hi
  omega
theorem neat_sorted {l : Int} {ns : List Int} : (neatI l ns).Pairwise (· < ·) := by
  unfold neatI
  refine List.Pairwise.filter _ ?_
  rw [List.pairwise_map]
  exact List.pairwise_lt_range.imp fun h => by omega
theorem neat_len {l : Int} {ns : List Int} (h : l ≤ 7) : (neatI l ns).length ≤ 15 := by
  unfold neatI
  refine Nat.le_trans (List.length_filter_le _ _) ?_
  rw [List.length_map, List.length_range]; omega
theorem neat_of {l : Int} {ns : List Int} (h : ∀ n ∈ ns, -l ≤ n ∧ n ≤ l) (hs : ns.Pairwise (· < ·)) : neatI l ns = ns :=
  Jv.sorted_ext neat_sorted hs fun n => by rw [mem_neat]; exact ⟨fun m => m.2, fun m => ⟨h n m, m⟩⟩
/-- neat lines of a shape -/
structure Wd (l : Int) (L : List (List (List Int))) (p q : Nat) : Prop where
  l0 : 0 ≤ l
  l6 : l ≤ 6
  hp : L.length = p
  hq : ∀ line ∈ L, line.length = q
  p0 : 1 ≤ p
  p6 : p ≤ 6
  q0 : 1 ≤ q
  q6 : q ≤ 6
  pq : p * q ≤ 12
  ends : ∀ line ∈ L, ∀ ns ∈ line, ns ≠ [] ∧ neatI l ns = ns
theorem Wd.range {l : Int} {L : List (List (List Int))} {p q : Nat} (w : Wd l L p q) {line : List (List Int)} {ns : List Int} (h1 : line ∈ L) (h2 : ns ∈ line) : ns.length ≤ 60 ∧ ∀ n ∈ ns, -l ≤ n ∧ n ≤ l := by
  obtain ⟨_, e⟩ := w.ends line h1 ns h2
  refine ⟨?_, fun n hn => ?_⟩
  · rw [← e]; have := neat_len (l := l) (ns := ns) (by have := w.l6; omega); omega
  · rw [← e] at hn; exact (mem_neat.mp hn).1
theorem Wd.same {l : Int} {L : List (List (List Int))} {p q : Nat} (w : Wd l L p q) : (L.map fun line => line.map (neatI l)) = L := by
  have : ∀ line ∈ L, line.map (neatI l) = line := fun line h => by
    have : ∀ ns ∈ line, neatI l ns = ns := fun ns h2 => (w.ends line h ns h2).2
    rw [List.map_congr_left (g := id) this, List.map_id]
  rw [List.map_congr_left (g := id) this, List.map_id]
/-- the lines as lists or tuples -/
theorem pair_map {α β : Type} {f : β → α} {F : α → β → Prop} : ∀ {ys : List β}, (∀ y ∈ ys, F (f y) y) → Paired F (ys.map f) ys
  | [], _ => .nil
  | a :: r, h => .cons (h a List.mem_cons_self) (pair_map fun y m => h y (List.mem_cons_of_mem _ m))
theorem linesT {L : List (List (List Int))} : LinesR (wantT L) L := ⟨_, rfl, pair_map fun line _ => ⟨_, rfl, pair_map fun ns _ => rfl⟩⟩
def lineL (line : List (List Int)) : PyData := .list (line.map fun ns => .tuple (ns.map .int))
def wantL (L : List (List (List Int))) : PyData := .list (L.map lineL)
theorem linesL {L : List (List (List Int))} : LinesR (wantL L) L := ⟨_, rfl, pair_map fun line _ => ⟨_, rfl, pair_map fun ns _ => rfl⟩⟩
def wantLT (L : List (List (List Int))) : PyData := .list (L.map lineT)
theorem linesLT {L : List (List (List Int))} : LinesR (wantLT L) L := ⟨_, rfl, pair_map fun line _ => ⟨_, rfl, pair_map fun ns _ => rfl⟩⟩
def wantLL (L : List (List (List Int))) : PyData := .list (L.map fun line => .list (line.map fun ns => .list (ns.map .int)))
theorem linesLL {L : List (List (List Int))} : LinesR (wantLL L) L := ⟨_, rfl, pair_map fun line _ => ⟨_, rfl, pair_map fun ns _ => rfl⟩⟩
theorem Wd.good {l : Int} {L : List (List (List Int))} {p q : Nat} {dw dk : PyData} {k0 k1 : Bool} (w : Wd l L p q) (h : LinesR dw L) (hk : Jv.seqD dk = some [.bool k0, .bool k1]) : GoodG (.int l) dw dk l L k0 k1 p q :=
  ⟨rfl, w.l0, w.l6, h, w.hp, w.hq, w.p0, w.p6, w.q0, w.q6, w.pq, fun line h1 ns h2 => ⟨(w.ends line h1 ns h2).1, w.range h1 h2⟩, hk⟩
theorem few_lines {dw : PyData} {lls : List (List (List Int))} (h : LinesR dw lls) (h1 : lls.length ≤ 100) (h2 : ∀ line ∈ lls, line.length ≤ 100) (h3 : ∀ line ∈ lls, ∀ ns ∈ line, ns.length ≤ 100) : Jv.few3 dw := by
  obtain ⟨rows, e, pr⟩ := h
  intro ds e1
  rw [e] at e1; cases e1
  refine ⟨by rw [Paired.length pr]; exact h1, fun r hr => ?_⟩
  obtain ⟨line, hl, es, e2, pr2⟩ := memL pr hr
  intro ds e3
  rw [e2] at e3; cases e3
  refine ⟨by rw [Paired.length pr2]; exact h2 line hl, fun x hx => ?_⟩
  obtain ⟨ns, hn, e4⟩ := memL pr2 hx
  intro ds e5
  rw [show Jv.seqD x = some (ns.map .int) from e4] at e5; cases e5
  rw [List.length_map]; exact h3 line hl ns hn
theorem GoodG.few {dl dw dk : PyData} {l : Int} {lls : List (List (List Int))} {k0 k1 : Bool} {p q : Nat} (g : GoodG dl dw dk l lls k0 k1 p q) : Jv.few3 dw :=
  few_lines g.dw (by rw [g.hp]; have := g.p6; omega) (fun line h => by rw [g.hq line h]; have := g.q6; omega) fun line h ns h2 => by have := (g.ends line h ns h2).2.1; omega
section
variable {K : PySem.W.Frag} {H H' H1 : Hp} {C CB a : Addr} {l : Int} {W : PyData} {k0 k1 : Bool} {p q : Int}
theorem GAt.same (h : GAt K H C a l W k0 k1 p q) (s : Same H H') : GAt K H' C a l W k0 k1 p q := by
  obtain ⟨dx, w, k, t, h1, h2, h3, h4⟩ := h
  exact ⟨dx, w, k, t, s _ _ h1, h2.same s, h3.same s, h4.same s⟩
theorem make_same {x dx : Addr} {o u : HO} (hx : H x = none) (hd : H dx = none) (ne : dx ≠ x) : Same H (upd (upd H dx o) x u) :=
  (Jv.same_new hd).trans (Jv.same_new (by rw [upd_ne ne.symm]; exact hx))
theorem mk_good {Q : VK} {E : XK} {xl xw xk : V} {dl dw dk : PyData} {lls : List (List (List Int))} {p q : Nat} (hl : Jv.Dv K H1 xl dl) (hw : Jv.Dv K H1 xw dw) (hk : Jv.Dv K H1 xk dk) (g : GoodG dl dw dk l lls k0 k1 p q)
    (k : ∀ r H', Same H1 H' → H1 r = none → GAt K H' C r l (wantD l lls) k0 k1 p q → Q (.ref r) H') :
    ∀ x dx, H1 x = none → H1 dx = none → dx ≠ x → sp_Goals_init K C CB [.ref x, xl, xw, xk] (upd (upd H1 dx (.own x)) x (.ins C dx [])) (fun v H2 => v = .non ∧ Q (.ref x) H2) E := fun x dx hx hd ne => by
  have s := make_same (o := .own x) (u := .ins C dx []) hx hd ne
  refine ⟨x, dx, xl, dl, xw, dw, xk, dk, rfl, upd_same, hl.same s, hw.same s, g.few, hk.same s, .inr ⟨l, lls, k0, k1, p, q, g, fun H' old ga => ⟨rfl, k x H' (fun b o hb => ?_) hx ga⟩⟩⟩
  exact old b o (ne_of_none hb hx) (s b o hb)
theorem mk_bad {Q : VK} {E : XK} {xl xw xk : V} {dl dw dk : PyData} {f : Str} (hl : Jv.Dv K H1 xl dl) (hw : Jv.Dv K H1 xw dw) (fw : Jv.few3 dw) (hk : Jv.Dv K H1 xk dk) (hf : faultG dl dw dk = some f)
    (k : ∀ d H', Same H1 H' → H' d = some (.xd [("what", .str f)]) → E (.ref CB) (some d) H') :
    ∀ x dx, H1 x = none → H1 dx = none → dx ≠ x → sp_Goals_init K C CB [.ref x, xl, xw, xk] (upd (upd H1 dx (.own x)) x (.ins C dx [])) (fun v H2 => v = .non ∧ Q (.ref x) H2) E := fun x dx hx hd ne => by
  have s := make_same (o := .own x) (u := .ins C dx []) hx hd ne
  exact ⟨x, dx, xl, dl, xw, dw, xk, dk, rfl, upd_same, hl.same s, hw.same s, fw, hk.same s, .inl ⟨f, hf, fun d H' s' hd' => k d H' (s.trans s') hd'⟩⟩
end
end K04

namespace K04
open PySem PySem.Spec PyProof.Rows L2
theorem _root_.Jv.r_makeX {C : Addr} {sp : Sp} {dvs : List V} {E : L2.St → XK} {t : TA} {σ : L2.St} {H : Hp} {Q : VK} (h : t σ H fun vs H1 => ∀ x dx, H1 x = none → H1 dx = none → dx ≠ x →
  sp (.ref x :: (vs ++ dvs)) (upd (upd H1 dx (.own x)) x (.ins C dx [])) (fun v H2 => v = .non ∧ Q (.ref x) H2) (E σ)) : Jv.tMakeX C sp dvs E t σ H Q := h
theorem lot_len {k : Int} : ∀ {ns : List Int} {lo : Int}, ns.Pairwise (· < ·) → (∀ n ∈ ns, lo ≤ n ∧ n < k) → (ns.length : Int) ≤ max 0 (k - lo)
  | [], lo, _, _ => by simp; omega
  | a :: r, lo, hs, h => by
    have h1 := List.pairwise_cons.mp hs
    have ha := h a List.mem_cons_self
    have h2 := lot_len (k := k) (ns := r) (lo := a + 1) h1.2 fun n hn => by
      have := h1.1 n hn
      have := h n (List.mem_cons_of_mem _ hn)
      omega
    rw [List.length_cons]
    omega
theorem lot_le {k : Int} {ns : List Int} (h : Jv.lotP k ns) : (ns.length : Int) ≤ max 0 k := by
  have := lot_len (k := k) (lo := 0) h.2.2 fun n hn => by have := h.1 n hn; omega
  omega
def cell (L : List (List (List Int))) (e w : Int) : List Int := (((L[e.toNat]?).getD [])[w.toNat]?).getD []
def cutL (L : List (List (List Int))) (n1 n2 : List Int) : List (List (List Int)) := n1.map fun e => n2.map fun w => cell L e w
theorem Wd.at {l : Int} {L : List (List (List Int))} {p q : Nat} (w : Wd l L p q) {e f : Int} (he : 0 ≤ e ∧ e < p) (hf : 0 ≤ f ∧ f < q) : ∃ line, L[e.toNat]? = some line ∧ line ∈ L ∧ line[f.toNat]? = some (cell L e f) ∧ cell L e f ∈ line := by
  have hp := w.hp
  have h1 : e.toNat < L.length := by omega
  have e1 := List.getElem?_eq_getElem h1
  have hm := List.mem_of_getElem? e1
  have hq := w.hq _ hm
  have h2 : f.toNat < L[e.toNat].length := by omega
  have e2 := List.getElem?_eq_getElem h2
  have ec : cell L e f = L[e.toNat][f.toNat] := by
    unfold cell
    rw [e1]
    show ((L[e.toNat])[f.toNat]?).getD [] = _
    rw [e2]; rfl
  exact ⟨_, e1, hm, by rw [ec]; exact e2, by rw [ec]; exact List.mem_of_getElem? e2⟩
theorem Wd.cut {l : Int} {L : List (List (List Int))} {p q : Nat} (w : Wd l L p q) {n1 n2 : List Int} (h1 : Jv.lotP p n1) (h2 : Jv.lotP q n2) : Wd l (cutL L n1 n2) n1.length n2.length := by
  have l1 := lot_le h1
  have l2 := lot_le h2
  have p6 := w.p6
  have q6 := w.q6
  have m1 : n1.length ≤ p := by omega
  have m2 : n2.length ≤ q := by omega
  refine ⟨w.l0, w.l6, by unfold cutL; rw [List.length_map], fun line hl => ?_, by have := h1.2.1; omega, by omega, by have := h2.2.1; omega, by omega, Nat.le_trans (Nat.mul_le_mul m1 m2) w.pq, fun line hl ns hn => ?_⟩
  · obtain ⟨e, _, rfl⟩ := List.mem_map.mp hl
    rw [List.length_map]
  · obtain ⟨e, he, rfl⟩ := List.mem_map.mp hl
    obtain ⟨f, hf, rfl⟩ := List.mem_map.mp hn
    have b1 := h1.1 e he
    have b2 := h2.1 f hf
    obtain ⟨line, _, hm, _, hc⟩ := w.at (e := e) (f := f) (by omega) (by omega)
    exact w.ends line hm _ hc
def sp_kept (K : PySem.W.Frag) (C CL : Addr) : Sp := fun vs H Q E => ∃ a x y l L k0 k1, ∃ p q : Nat, ∃ d1 d2, vs = [.ref a, x, y] ∧ GAt K H C a l (wantT L) k0 k1 p q ∧ Wd l L p q ∧ Jv.Dv K H x d1 ∧ few60 d1 ∧ Jv.Dv K H y d2 ∧ few60 d2 ∧
  ((∃ n1 n2, Jv.seqD d1 = some (n1.map .int) ∧ Jv.lotP p n1 ∧ Jv.seqD d2 = some (n2.map .int) ∧ Jv.lotP q n2 ∧ ∀ r H', Same H H' → GAt K H' C r l (wantT (cutL L n1 n2)) k0 k1 n1.length n2.length → Q (.ref r) H') ∨
   (lotD p d1 = false ∧ ∀ e H', Same H H' → H' e = some (.xd [("side", .int 0)]) → E (.ref CL) (some e) H') ∨
   (∃ n1, Jv.seqD d1 = some (n1.map .int) ∧ Jv.lotP p n1 ∧ lotD q d2 = false ∧ ∀ e H', Same H H' → H' e = some (.xd [("side", .int 1)]) → E (.ref CL) (some e) H'))
section
variable {P : Program} {w : World} {K : PySem.W.Frag} {mg : Str → Option Value} {base : Heap}
theorem ok_Goals_kept (T : Tx) (O : Ok K mg T) : FnOk P w K mg base (L2.CX P w) 5 T.f_Goals_kept T.d_Goals_kept ["self", "east_lot", "west_lot"] (sp_kept K T.C_Goals T.C_BadLot) := by
  refine O.F_Goals_kept.okX sc_Goals_kept (fun vs H Q E h => by obtain ⟨_, _, _, _, _, _, _, _, _, _, _, rfl, _⟩ := h; rfl) (fun cdv A outer s H vs Q E hr h => ?_)
  obtain ⟨a, x, y, l, L, k0, k1, p, q, d1, d2, rfl, hg, hw, hx, f1, hy, f2, qq⟩ := h
  obtain ⟨dx, wv, kv, sv, hga, hW, hK, hS⟩ := id hg
  refine ⟨_, (pss_cons (ps_set (i := 3) sc_Goals_kept.nd rfl (Or.inl rfl) (pe_callS (ok_check_lot T O) (hr.mono (by decide)) (by rfl) O.m_check_lot O.F_check_lot.kp O.b_check_lot (fun σ => passAt (takes_of rfl rfl rfl rfl) σ) (pa_cons (pv 1) (pa_cons (pe_ix (r := rIx K) ix_seq (show PE _ _ (tFld K _ _) from pe_fld (pv 0) rfl) (pe_glob (v := .int (0)) (by rfl) O.c_EAST ⟨_, rfl⟩) (fun _ _ => rfl)) (pa_cons (pe_glob (v := .int (0)) (by rfl) O.c_EAST ⟨_, rfl⟩) pa_nil)))))
  (pss_cons (ps_set (i := 4) sc_Goals_kept.nd rfl (Or.inr rfl) (pe_callS (ok_check_lot T O) (hr.mono (by decide)) (by rfl) O.m_check_lot O.F_check_lot.kp O.b_check_lot (fun σ => passAt (takes_of rfl rfl rfl rfl) σ) (pa_cons (pv 2) (pa_cons (pe_ix (r := rIx K) ix_seq (show PE _ _ (tFld K _ _) from pe_fld (pv 0) rfl) (pe_glob (v := .int (1)) (by rfl) O.c_WEST ⟨_, rfl⟩) (fun _ _ => rfl)) (pa_cons (pe_glob (v := .int (1)) (by rfl) O.c_WEST ⟨_, rfl⟩) pa_nil)))))
  (pss_one (ps_ret (Jv.pe_makeX O.k_Goals (ok_Goalsu_initu T O) (hr.mono (by decide)) (by rfl) O.m_Goals O.b_Goalsu_initu .nil (fun σ => passAt (takes_of rfl rfl rfl rfl) σ) (pa_cons (show PE _ _ (tFld K _ _) from pe_fld (pv 0) rfl) (pa_cons (pe_lc (own := [("e", 5)]) (by rfl) sc_Goals_kept.nd (Jv.piOr (show PI _ _ _ (iList K _) from pi_list (pv 3)) (show PI _ _ _ (iTup K _) from pi_tup (pv 3))) (blkOk_by (own := [("e", 5)]) (N := ["self", "east_lot", "west_lot", "east", "west", "e", "w"]) (sc := defScope s_Goals_kept) (scope := ({ kind := .function, names := [(".0", .local), ("e", .cell), ("self", .free), ("west", .free)], isGenerator := false, isCoroutine := false } : Scope)) (by decide +kernel)) (fun _ _ _ _ _ => (pg_name (i := 5) sc_Goals_kept.nd rfl (Or.inr rfl))) (fun _ _ _ _ _ => pts_nil) (fun _ _ _ _ _ => (pe_lc (own := [("w", 6)]) (by rfl) sc_Goals_kept.nd (Jv.piOr (show PI _ _ _ (iList K _) from pi_list (pv 4)) (show PI _ _ _ (iTup K _) from pi_tup (pv 4))) (blkOk_by (own := [("w", 6)]) (N := ["self", "east_lot", "west_lot", "east", "west", "e", "w"]) (sc := ({ kind := .function, names := [(".0", .local), ("e", .cell), ("self", .cell), ("west", .cell)], isGenerator := false, isCoroutine := false } : Scope)) (scope := ({ kind := .function, names := [(".0", .local), ("w", .local), ("e", .free), ("self", .free)], isGenerator := false, isCoroutine := false } : Scope)) (by decide +kernel)) (fun _ _ _ _ _ => (pg_name (i := 6) sc_Goals_kept.nd rfl (Or.inl rfl))) (fun _ _ _ _ _ => pts_nil) (fun _ _ _ _ _ => (pe_ix (r := rIx K) ix_seq (pe_ix (r := rIx K) ix_seq (show PE _ _ (tFld K _ _) from pe_fld (pv 0) rfl) (pv 5) (fun _ _ => rfl)) (pv 6) (fun _ _ => rfl)))))) (pa_cons (show PE _ _ (tFld K _ _) from pe_fld (pv 0) rfl) pa_nil)))))))), ?_⟩
  walk_at "r"
  refine Jv.r_fld ?_
  walk_at "r"
  refine ⟨a, _, dx, _, _, rfl, hga, O.o_Goals, O.n_Goals_sides, rfl, ?_⟩
  walk_at "r"
  obtain ⟨ss, skS, alS⟩ := hS.sk rfl
  have alS2 := alS
  cases alS2 with
  | cons c1 c2 =>
  cases c1
  cases c2 with
  | cons c1 c2 =>
  cases c1
  cases c2
  refine skS.ix (v := .int p) rfl ?_
  walk_at "r"
  refine ⟨_, _, _, _, rfl, hx, f1, ?_⟩
  have hE : ∀ e H', Same H H' → H' e = some (.xd [("side", .int 0)]) → lotD p d1 = false → E (.ref T.C_BadLot) (some e) H' := fun e H' s' he hf => by
    rcases qq with ⟨n1, n2, e1, h1, _⟩ | ⟨_, k⟩ | ⟨n1, e1, h1, _⟩
    · rw [lotD_of e1, decide_eq_true h1] at hf; cases hf
    · exact k e H' s' he
    · rw [lotD_of e1, decide_eq_true h1] at hf; cases hf
  cases ef : lotD p d1 with
  | false => exact .inr ⟨rfl, fun e H' s' he => hE e H' s' he ef⟩
  | true =>
  have hn : ∃ n1, Jv.seqD d1 = some (n1.map .int) ∧ Jv.lotP p n1 := by
    rcases qq with ⟨n1, n2, e1, h1, _⟩ | ⟨hf, _⟩ | ⟨n1, e1, h1, _⟩
    · exact ⟨n1, e1, h1⟩
    · rw [ef] at hf; cases hf
    · exact ⟨n1, e1, h1⟩
  obtain ⟨n1, e1, h1⟩ := hn
  refine .inl ⟨n1, e1, h1, fun te H1 s1 ht1 => ?_⟩
  walk_at "r"
  refine Jv.r_fld ?_
  walk_at "r"
  refine ⟨a, _, dx, _, _, rfl, s1 _ _ hga, O.o_Goals, O.n_Goals_sides, rfl, ?_⟩
  walk_at "r"
  refine (skS.same s1).ix (v := .int q) rfl ?_
  walk_at "r"
  refine ⟨_, _, _, _, rfl, hy.same s1, f2, ?_⟩
  have hq2 : (lotD q d2 = false ∧ ∀ e H', Same H H' → H' e = some (.xd [("side", .int 1)]) → E (.ref T.C_BadLot) (some e) H') ∨ (∃ n2, Jv.seqD d2 = some (n2.map .int) ∧ Jv.lotP q n2 ∧ ∀ r H', Same H H' → GAt K H' T.C_Goals r l (wantT (cutL L n1 n2)) k0 k1 n1.length n2.length → Q (.ref r) H') := by
    rcases qq with ⟨m1, n2, e2, _, e3, h3, k⟩ | ⟨hf, _⟩ | ⟨m1, e2, _, hf, k⟩
    · rw [e1] at e2
      have em : n1 = m1 := by
        have := Option.some.inj e2
        have h := congrArg intsD this
        rw [intsD_map, intsD_map] at h
        exact Option.some.inj h
      subst em
      exact .inr ⟨n2, e3, h3, k⟩
    · rw [ef] at hf; cases hf
    · exact .inl ⟨hf, k⟩
  rcases hq2 with ⟨hf, k⟩ | ⟨n2, e2, h2, k⟩
  · exact .inr ⟨hf, fun e H' s' he => k e H' (s1.trans s') he⟩
  refine .inl ⟨n2, e2, h2, fun tw H2 s2 ht2 => ?_⟩
  have s12 := s1.trans s2
  have wc := hw.cut h1 h2
  walk_at "r"
  refine Jv.r_makeX ?_
  walk_at "r"
  refine Jv.r_fld ?_
  walk_at "r"
  refine ⟨a, _, dx, _, _, rfl, s12 _ _ hga, O.o_Goals, O.n_Goals_ladder, rfl, ?_⟩
  walk_at "r"
  have ht1' : Jv.Sk K H2 (.ref te) (n1.map V.int) := ⟨te, rfl, .inr (Jv.Same.sqT s2 ht1)⟩
  have ht2' : Jv.Sk K H2 (.ref tw) (n2.map V.int) := ⟨tw, rfl, .inr ht2⟩
  have l1 := lot_le h1
  have l2 := lot_le h2
  have hp6 := hw.p6
  have hq6 := hw.q6
  have hg2 := hg.same s12
  refine Jv.lcS2 (K := K) (N := []) (j := 5) (i := 3) rfl ht1' .nil ((cutL L n1 n2).map lineL) (by rw [List.length_map, List.length_map]; unfold cutL; rw [List.length_map]) (by rw [List.length_map]; omega) (fun i v e D1 H6 hi hv he s6 hN1 hD1 PP hP => ?_) (fun D1 ys H6 s6 hD1 eD1 dv1 _ => ?_)
  · obtain ⟨z, hz, rfl⟩ := Jv.map_at hv
    have hzb := h1.1 z (List.mem_of_getElem? hz)
    have ee : e = lineL (n2.map fun w => cell L z w) := by
      unfold cutL at he
      rw [List.map_map, List.getElem?_map, hz] at he
      exact (Option.some.inj he).symm
    subst ee
    walk_at "r"
    refine Jv.lcS2 (K := K) (N := [D1]) (j := 6) (i := 4) rfl (ht2'.same s6) hN1 ((n2.map fun w => cell L z w).map fun ns => .tuple (ns.map .int)) (by rw [List.length_map, List.length_map, List.length_map]) (by rw [List.length_map]; omega) (fun i2 u e2' D2 H7 hi2 hu he2 s7 hN2 hD2 PP2 hP2 => ?_) (fun D2 ys2 H7 s7 hD2 eD2 dv2 _ => ?_)
    · obtain ⟨y, hy2, rfl⟩ := Jv.map_at hu
      have hyb := h2.1 y (List.mem_of_getElem? hy2)
      have ee2 : e2' = .tuple ((cell L z y).map .int) := by
        rw [List.map_map, List.getElem?_map, hy2] at he2
        exact (Option.some.inj he2).symm
      subst ee2
      obtain ⟨line, a1, a2, a3, a4⟩ := hw.at (e := z) (f := y) (by omega) (by omega)
      obtain ⟨ws, skW, alW⟩ := (hW.same s12).sk rfl
      obtain ⟨wv1, b1, b2⟩ := alW.of (i := z.toNat) (d := lineT line) (by rw [List.getElem?_map, a1]; rfl)
      obtain ⟨us, skU, alU⟩ := b2.sk rfl
      obtain ⟨wv2, c1, c2⟩ := alU.of (i := y.toNat) (d := .tuple ((cell L z y).map .int)) (by rw [List.getElem?_map, a3]; rfl)
      have s67 := s6.trans s7
      walk_at "r"
      refine Jv.r_fld ?_
      walk_at "r"
      refine ⟨a, _, dx, _, _, rfl, s67 _ _ (s12 _ _ hga), O.o_Goals, O.n_Goals_wanted, rfl, ?_⟩
      walk_at "r"
      refine (skW.same s67).ix (Jv.at_i (by omega) b1) ?_
      walk_at "r"
      refine (skU.same s67).ix (Jv.at_i (by omega) c1) ?_
      refine hP2 _ _ (Same.refl _) ?_
      have c3 : Jv.Dv K (Jv.hide [] H2) wv2 (.tuple ((cell L z y).map .int)) := by rw [Jv.hide_nil]; exact c2
      exact (c3.same (Jv.hide_more s6 hD1)).same (Jv.hide_more s7 hD2)
    · exact hP _ _ s7 (.lst (Jv.hide_at (by
        intro m
        obtain ⟨o, ho⟩ := hN1 D2 m
        rw [hD2] at ho; cases ho) eD2) dv2)
  · walk_at "r"
    rw [Jv.hide_nil] at dv1
    refine Jv.r_fld ?_
    walk_at "r"
    refine ⟨a, _, dx, _, _, rfl, s6 _ _ (s12 _ _ hga), O.o_Goals, O.n_Goals_knows, rfl, ?_⟩
    walk_at "r"
    have s16 := s12.trans s6
    refine mk_good (.int l) (.lst eD1 dv1) (hK.same s16) (wc.good linesL rfl) fun r H' s' _ ga => ?_
    rw [want_eq, wc.same] at ga
    exact k r H' (s16.trans s') ga
end
end K04

namespace K04
open PySem PySem.Spec PyProof.Rows L2
def rowL (L : List (List (List Int))) (n1 : List Int) : List (List (List Int)) := n1.map fun e => (L[e.toNat]?).getD []
def colL (L : List (List (List Int))) (n2 : List Int) : List (List (List Int)) := L.map fun line => n2.map fun w => (line[w.toNat]?).getD []
def raiseI (b : Int) (e : Int) : Int := if e < 0 then e - b else e + b
def raiseL (b : Int) (L : List (List (List Int))) : List (List (List Int)) := L.map fun line => line.map fun ns => ns.map (raiseI b)
theorem order_len {k : Nat} {ns : List Int} (h : Jv.orderP k ns) : ns.length = k := by
  rw [h.2.length_eq]; simp
theorem Wd.rows {l : Int} {L : List (List (List Int))} {p q : Nat} (w : Wd l L p q) {n1 : List Int} (h : Jv.orderP p n1) : Wd l (rowL L n1) p q := by
  have hl := order_len h
  have hL := w.hp
  have key : ∀ line ∈ rowL L n1, line ∈ L := fun line hm => by
    obtain ⟨e, he, rfl⟩ := List.mem_map.mp hm
    have b := h.1 e he
    have h1 : e.toNat < L.length := by omega
    rw [List.getElem?_eq_getElem h1]
    exact List.getElem_mem h1
  exact ⟨w.l0, w.l6, by unfold rowL; rw [List.length_map, hl], fun line hm => w.hq line (key line hm), w.p0, w.p6, w.q0, w.q6, w.pq, fun line hm ns hn => w.ends line (key line hm) ns hn⟩
theorem Wd.cols {l : Int} {L : List (List (List Int))} {p q : Nat} (w : Wd l L p q) {n2 : List Int} (h : Jv.orderP q n2) : Wd l (colL L n2) p q := by
  have hl := order_len h
  refine ⟨w.l0, w.l6, by unfold colL; rw [List.length_map, w.hp], fun line hm => ?_, w.p0, w.p6, w.q0, w.q6, w.pq, fun line hm ns hn => ?_⟩
  · obtain ⟨l0, h0, rfl⟩ := List.mem_map.mp hm
    rw [List.length_map, hl]
  · obtain ⟨l0, h0, rfl⟩ := List.mem_map.mp hm
    obtain ⟨f, hf, rfl⟩ := List.mem_map.mp hn
    have b := h.1 f hf
    have h2 := w.hq l0 h0
    have h1 : f.toNat < l0.length := by omega
    refine w.ends l0 h0 _ ?_
    rw [List.getElem?_eq_getElem h1]
    exact List.getElem_mem h1
theorem raise_sorted {b : Int} (hb : 0 ≤ b) {ns : List Int} (h : ns.Pairwise (· < ·)) : (ns.map (raiseI b)).Pairwise (· < ·) := by
  rw [List.pairwise_map]
  exact h.imp fun {x y} hxy => by unfold raiseI; split <;> split <;> omega
theorem Wd.raise {l b : Int} {L : List (List (List Int))} {p q : Nat} (w : Wd l L p q) (hb : 0 ≤ b) (h6 : l + b ≤ 6) : Wd (l + b) (raiseL b L) p q := by
  have l0 := w.l0
  refine ⟨by omega, h6, by unfold raiseL; rw [List.length_map, w.hp], fun line hm => ?_, w.p0, w.p6, w.q0, w.q6, w.pq, fun line hm ns hn => ?_⟩
  · obtain ⟨l1, h1, rfl⟩ := List.mem_map.mp hm
    rw [List.length_map, w.hq l1 h1]
  · obtain ⟨l1, h1, rfl⟩ := List.mem_map.mp hm
    obtain ⟨m, h2, rfl⟩ := List.mem_map.mp hn
    obtain ⟨a1, a2⟩ := w.ends l1 h1 m h2
    obtain ⟨_, a3⟩ := w.range h1 h2
    refine ⟨fun e => a1 (List.map_eq_nil_iff.mp e), neat_of (fun n hn => ?_) (raise_sorted hb (by rw [← a2]; exact neat_sorted))⟩
    obtain ⟨x, hx, rfl⟩ := List.mem_map.mp hn
    have := a3 x hx
    unfold raiseI
    split <;> omega
def sp_renumbered_lines (K : PySem.W.Frag) : Sp := fun vs H Q _ => ∃ x sd y l L n1, ∃ p q : Nat, vs = [x, .int sd, y] ∧ Wd l L p q ∧ Jv.Dv K H x (wantT L) ∧ Jv.Sk K H y (n1.map V.int) ∧
  ((sd = 0 ∧ Jv.orderP p n1 ∧ ∀ r H', Same H H' → Jv.Dv K H' r (.list ((rowL L n1).map lineT)) → Q r H') ∨
   (sd = 1 ∧ Jv.orderP q n1 ∧ ∀ r H', Same H H' → Jv.Dv K H' r (.list ((colL L n1).map lineL)) → Q r H'))
def sp_renumbered (K : PySem.W.Frag) (C CS CL : Addr) : Sp := fun vs H Q E => ∃ a sv x l L k0 k1, ∃ p q : Nat, ∃ ds d, vs = [.ref a, sv, x] ∧ GAt K H C a l (wantT L) k0 k1 p q ∧ Wd l L p q ∧ Jv.Dv K H sv ds ∧ Jv.Dv K H x d ∧ few60 d ∧
  ((∃ n1, ds = .int 0 ∧ Jv.seqD d = some (n1.map .int) ∧ Jv.orderP p n1 ∧ ∀ r H', Same H H' → GAt K H' C r l (wantT (rowL L n1)) k0 k1 p q → Q (.ref r) H') ∨
   (∃ n1, ds = .int 1 ∧ Jv.seqD d = some (n1.map .int) ∧ Jv.orderP q n1 ∧ ∀ r H', Same H H' → GAt K H' C r l (wantT (colL L n1)) k0 k1 p q → Q (.ref r) H') ∨
   (Jv.wholeD ds (.int 0) (.int 1) = false ∧ ∀ H', Same H H' → E (.ref CS) none H') ∨
   (ds = .int 0 ∧ orderD p d = false ∧ ∀ e H', Same H H' → H' e = some (.xd [("side", .int 0)]) → E (.ref CL) (some e) H') ∨
   (ds = .int 1 ∧ orderD q d = false ∧ ∀ e H', Same H H' → H' e = some (.xd [("side", .int 1)]) → E (.ref CL) (some e) H'))
section
variable {P : Program} {w : World} {K : PySem.W.Frag} {mg : Str → Option Value} {base : Heap}
theorem ok_renumbered_lines (T : Tx) (O : Ok K mg T) : FnOk P w K mg base CX0 2 T.f_renumbered_lines T.d_renumbered_lines ["lines", "side", "order"] (sp_renumbered_lines K) := by
  refine O.F_renumbered_lines.ok sc_renumbered_lines (fun vs H Q E h => by obtain ⟨_, _, _, _, _, _, _, _, rfl, _⟩ := h; rfl) (fun cdv A outer s H vs Q E hr h => ?_)
  obtain ⟨x, sd, y, l, L, n1, p, q, rfl, hw, hx, hy, qq⟩ := h
  refine ⟨_, (pss_cons (ps_if (pt_cmpR op_eq (pv 1) (pe_glob (v := .int (0)) (by rfl) O.c_EAST ⟨_, rfl⟩) (nomark _)) (pss_one (ps_ret (pe_lc (own := [("kind", 4)]) (by rfl) sc_renumbered_lines.nd (Jv.piOr (show PI _ _ _ (iList K _) from pi_list (pv 2)) (show PI _ _ _ (iTup K _) from pi_tup (pv 2))) (blkOk_by (own := [("kind", 4)]) (N := ["lines", "side", "order", "line", "kind"]) (sc := defScope s_renumbered_lines) (scope := ({ kind := .function, names := [(".0", .local), ("kind", .local), ("lines", .free)], isGenerator := false, isCoroutine := false } : Scope)) (by decide +kernel)) (fun _ _ _ _ _ => (pg_name (i := 4) sc_renumbered_lines.nd rfl (Or.inl rfl))) (fun _ _ _ _ _ => pts_nil) (fun _ _ _ _ _ => (pe_ix (r := rIx K) ix_seq (pv 0) (pv 4) (fun _ _ => rfl)))))) pss_nil)
  (pss_one (ps_ret (pe_lc (own := [("line", 3)]) (by rfl) sc_renumbered_lines.nd (Jv.piOr (show PI _ _ _ (iList K _) from pi_list (pv 0)) (show PI _ _ _ (iTup K _) from pi_tup (pv 0))) (blkOk_by (own := [("line", 3)]) (N := ["lines", "side", "order", "line", "kind"]) (sc := defScope s_renumbered_lines) (scope := ({ kind := .function, names := [(".0", .local), ("line", .cell), ("order", .free)], isGenerator := false, isCoroutine := false } : Scope)) (by decide +kernel)) (fun _ _ _ _ _ => (pg_name (i := 3) sc_renumbered_lines.nd rfl (Or.inr rfl))) (fun _ _ _ _ _ => pts_nil) (fun _ _ _ _ _ => (pe_lc (own := [("kind", 4)]) (by rfl) sc_renumbered_lines.nd (Jv.piOr (show PI _ _ _ (iList K _) from pi_list (pv 2)) (show PI _ _ _ (iTup K _) from pi_tup (pv 2))) (blkOk_by (own := [("kind", 4)]) (N := ["lines", "side", "order", "line", "kind"]) (sc := ({ kind := .function, names := [(".0", .local), ("line", .cell), ("order", .cell)], isGenerator := false, isCoroutine := false } : Scope)) (scope := ({ kind := .function, names := [(".0", .local), ("kind", .local), ("line", .free)], isGenerator := false, isCoroutine := false } : Scope)) (by decide +kernel)) (fun _ _ _ _ _ => (pg_name (i := 4) sc_renumbered_lines.nd rfl (Or.inl rfl))) (fun _ _ _ _ _ => pts_nil) (fun _ _ _ _ _ => (pe_ix (r := rIx K) ix_seq (pv 3) (pv 4) (fun _ _ => rfl))))))))), ?_⟩
  have hp6 := hw.p6
  have hq6 := hw.q6
  have hpL := hw.hp
  obtain ⟨ws, skW, alW⟩ := hx.sk rfl
  have lws := alW.len
  rw [List.length_map] at lws
  rcases qq with ⟨rfl, h1, k⟩ | ⟨rfl, h1, k⟩
  · have hl1 := order_len h1
    walk_at "r"
    refine Jv.lcS2 (K := K) (N := []) (j := 4) (i := 2) rfl hy .nil ((rowL L n1).map lineT) (by rw [List.length_map, List.length_map]; unfold rowL; rw [List.length_map]) (by rw [List.length_map]; omega) (fun i v e D1 H6 hi hv he s6 hN1 hD1 PP hP => ?_) (fun D1 ys H6 s6 hD1 eD1 dv1 _ => ?_)
    · obtain ⟨z, hz, rfl⟩ := Jv.map_at hv
      have hzb := h1.1 z (List.mem_of_getElem? hz)
      have hzL : z.toNat < L.length := by omega
      have ee : e = lineT L[z.toNat] := by
        unfold rowL at he
        rw [List.map_map, List.getElem?_map, hz] at he
        have := (Option.some.inj he).symm
        rw [this]
        show lineT ((L[z.toNat]?).getD []) = _
        rw [List.getElem?_eq_getElem hzL]; rfl
      subst ee
      obtain ⟨wv1, c1, c2⟩ := alW.of (i := z.toNat) (d := lineT L[z.toNat]) (by rw [List.getElem?_map, List.getElem?_eq_getElem hzL]; rfl)
      walk_at "r"
      refine (skW.same s6).ix (Jv.at_i (by omega) c1) ?_
      refine hP _ _ (Same.refl _) ?_
      have c3 : Jv.Dv K (Jv.hide [] H) wv1 (lineT L[z.toNat]) := by rw [Jv.hide_nil]; exact c2
      exact c3.same (Jv.hide_more s6 hD1)
    · walk_at "r"
      rw [Jv.hide_nil] at dv1
      exact k _ _ s6 (.lst eD1 dv1)
  · have hl1 := order_len h1
    walk_at "r"
    refine Jv.lcS2 (K := K) (N := []) (j := 3) (i := 0) rfl skW .nil ((colL L n1).map lineL) (by rw [List.length_map]; unfold colL; rw [List.length_map]; omega) (by omega) (fun i v e D1 H6 hi hv he s6 hN1 hD1 PP hP => ?_) (fun D1 ys H6 s6 hD1 eD1 dv1 _ => ?_)
    · obtain ⟨dl, c1, c2⟩ := alW.at hv
      rw [List.getElem?_map] at c1
      obtain ⟨line, c3, rfl⟩ := Option.map_eq_some_iff.mp c1
      have hline := List.mem_of_getElem? c3
      have hlq := hw.hq line hline
      have ee : e = lineL (n1.map fun w => (line[w.toNat]?).getD []) := by
        unfold colL at he
        rw [List.map_map, List.getElem?_map, c3] at he
        exact (Option.some.inj he).symm
      subst ee
      obtain ⟨us, skU, alU⟩ := (c2.same s6).sk rfl
      walk_at "r"
      refine Jv.lcS2 (K := K) (N := [D1]) (j := 4) (i := 2) rfl (hy.same s6) hN1 ((n1.map fun w => (line[w.toNat]?).getD []).map fun ns => .tuple (ns.map .int)) (by rw [List.length_map, List.length_map, List.length_map]) (by rw [List.length_map]; omega) (fun i2 u e2' D2 H7 hi2 hu he2 s7 hN2 hD2 PP2 hP2 => ?_) (fun D2 ys2 H7 s7 hD2 eD2 dv2 _ => ?_)
      · obtain ⟨y, hy2, rfl⟩ := Jv.map_at hu
        have hyb := h1.1 y (List.mem_of_getElem? hy2)
        have hyL : y.toNat < line.length := by omega
        have ee2 : e2' = .tuple (line[y.toNat].map .int) := by
          rw [List.map_map, List.getElem?_map, hy2] at he2
          have := (Option.some.inj he2).symm
          rw [this]
          show PyData.tuple (((line[y.toNat]?).getD []).map .int) = _
          rw [List.getElem?_eq_getElem hyL]; rfl
        subst ee2
        have c2h : Jv.Dv K (Jv.hide [] H) v (lineT line) := by rw [Jv.hide_nil]; exact c2
        obtain ⟨us2, skU2, alU2⟩ := (c2h.same (Jv.hide_more s6 hD1)).sk rfl
        obtain ⟨wv2, d1, d2⟩ := alU2.of (i := y.toNat) (d := .tuple (line[y.toNat].map .int)) (by rw [List.getElem?_map, List.getElem?_eq_getElem hyL]; rfl)
        walk_at "r"
        refine (skU2.same ((Jv.hide_le).trans s7)).ix (Jv.at_i (by omega) d1) ?_
        exact hP2 _ _ (Same.refl _) (d2.same (Jv.hide_more s7 hD2))
      · exact hP _ _ s7 (.lst (Jv.hide_at (by
          intro m
          obtain ⟨o, ho⟩ := hN1 D2 m
          rw [hD2] at ho; cases ho) eD2) dv2)
    · walk_at "r"
      rw [Jv.hide_nil] at dv1
      exact k _ _ s6 (.lst eD1 dv1)
theorem ok_Goals_renumbered (T : Tx) (O : Ok K mg T) : FnOk P w K mg base (L2.CX P w) 5 T.f_Goals_renumbered T.d_Goals_renumbered ["self", "side", "order"] (sp_renumbered K T.C_Goals T.C_BadSide T.C_BadLot) := by
  refine O.F_Goals_renumbered.okX sc_Goals_renumbered (fun vs H Q E h => by obtain ⟨_, _, _, _, _, _, _, _, _, _, _, rfl, _⟩ := h; rfl) (fun cdv A outer s H vs Q E hr h => ?_)
  obtain ⟨a, sv, x, l, L, k0, k1, p, q, ds, d, rfl, hg, hw, hs, hx, f1, qq⟩ := h
  obtain ⟨dx, wv, kv, tv, hga, hW, hK, hS⟩ := id hg
  refine ⟨_, (pss_cons (ps_set (i := 3) sc_Goals_renumbered.nd rfl (Or.inl rfl) (pe_callS (ok_check_side_order T O) (hr.mono (by decide)) (by rfl) O.m_check_side_order O.F_check_side_order.kp O.b_check_side_order (fun σ => passAt (takes_of rfl rfl rfl rfl) σ) (pa_cons (pv 2) (pa_cons (pe_ix (r := rIx K) ix_seq (show PE _ _ (tFld K _ _) from pe_fld (pv 0) rfl) (pe_callS (ok_check_side T O) (hr.mono (by decide)) (by rfl) O.m_check_side O.F_check_side.kp O.b_check_side (fun σ => passAt (takes_of rfl rfl rfl rfl) σ) (pa_cons (pv 1) pa_nil)) (fun _ _ => rfl)) (pa_cons (pv 1) pa_nil)))))
  (pss_one (ps_ret (Jv.pe_makeX O.k_Goals (ok_Goalsu_initu T O) (hr.mono (by decide)) (by rfl) O.m_Goals O.b_Goalsu_initu .nil (fun σ => passAt (takes_of rfl rfl rfl rfl) σ) (pa_cons (show PE _ _ (tFld K _ _) from pe_fld (pv 0) rfl) (pa_cons (pe_call (ok_renumbered_lines T O) (hr.mono (by decide)) (by rfl) O.m_renumbered_lines O.F_renumbered_lines.kp O.b_renumbered_lines .nil pass0 (pa_cons (show PE _ _ (tFld K _ _) from pe_fld (pv 0) rfl) (pa_cons (pv 1) (pa_cons (pv 3) pa_nil)))) (pa_cons (show PE _ _ (tFld K _ _) from pe_fld (pv 0) rfl) pa_nil))))))), ?_⟩
  walk_at "r"
  refine Jv.r_fld ?_
  walk_at "r"
  refine ⟨a, _, dx, _, _, rfl, hga, O.o_Goals, O.n_Goals_sides, rfl, ?_⟩
  walk_at "r"
  obtain ⟨ss, skS, alS⟩ := hS.sk rfl
  have alS2 := alS
  cases alS2 with
  | cons c1 c2 =>
  cases c1
  cases c2 with
  | cons c1 c2 =>
  cases c1
  cases c2
  have hp6 := hw.p6
  have hq6 := hw.q6
  refine ⟨_, _, rfl, hs, fun ew => ?_, fun ew => ?_⟩
  · obtain ⟨s0, rfl, b0, b1⟩ := Jv.wholeD_int ew
    cases hs
    have hs01 : s0 = 0 ∨ s0 = 1 := by omega
    rcases hs01 with rfl | rfl
    · show rIx K tv (.int 0) H _
      refine skS.ix (v := .int p) rfl ?_
      walk_at "r"
      refine ⟨_, _, _, _, rfl, hx, f1, ⟨by omega, by omega⟩, ?_⟩
      rcases qq with ⟨n1, _, e1, h1, k⟩ | ⟨_, hc, _⟩ | ⟨hf, _⟩ | ⟨_, hf, k⟩ | ⟨hc, _⟩
      · refine .inl ⟨n1, e1, h1, fun te H1 s1 ht1 => ?_⟩
        have wr := hw.rows h1
        walk_at "r"
        refine Jv.r_makeX ?_
        walk_at "r"
        refine Jv.r_fld ?_
        walk_at "r"
        refine ⟨a, _, dx, _, _, rfl, s1 _ _ hga, O.o_Goals, O.n_Goals_ladder, rfl, ?_⟩
        walk_at "r"
        have ht1' : Jv.Sk K H1 (.ref te) (n1.map V.int) := ⟨te, rfl, .inr ht1⟩
        refine Jv.r_fld ?_
        walk_at "r"
        refine ⟨a, _, dx, _, _, rfl, s1 _ _ hga, O.o_Goals, O.n_Goals_wanted, rfl, ?_⟩
        walk_at "r"
        refine ⟨_, _, _, l, L, n1, p, q, rfl, hw, hW.same s1, ht1', .inl ⟨rfl, h1, fun rv H6 s6 dv1 => ?_⟩⟩
        walk_at "r"
        refine Jv.r_fld ?_
        walk_at "r"
        refine ⟨a, _, dx, _, _, rfl, s6 _ _ (s1 _ _ hga), O.o_Goals, O.n_Goals_knows, rfl, ?_⟩
        walk_at "r"
        have s16 := s1.trans s6
        refine mk_good (.int l) dv1 (hK.same s16) (wr.good linesLT rfl) fun r H' s' _ ga => ?_
        rw [want_eq, wr.same] at ga
        exact k r H' (s16.trans s') ga
      · cases hc
      · exact absurd hf (by decide)
      · exact .inr ⟨hf, fun e H' s' he => k e H' s' he⟩
      · cases hc
    · show rIx K tv (.int 1) H _
      refine skS.ix (v := .int q) rfl ?_
      walk_at "r"
      refine ⟨_, _, _, _, rfl, hx, f1, ⟨by omega, by omega⟩, ?_⟩
      rcases qq with ⟨_, hc, _⟩ | ⟨n1, _, e1, h1, k⟩ | ⟨hf, _⟩ | ⟨hc, _⟩ | ⟨_, hf, k⟩
      · cases hc
      · refine .inl ⟨n1, e1, h1, fun te H1 s1 ht1 => ?_⟩
        have wr := hw.cols h1
        walk_at "r"
        refine Jv.r_makeX ?_
        walk_at "r"
        refine Jv.r_fld ?_
        walk_at "r"
        refine ⟨a, _, dx, _, _, rfl, s1 _ _ hga, O.o_Goals, O.n_Goals_ladder, rfl, ?_⟩
        walk_at "r"
        have ht1' : Jv.Sk K H1 (.ref te) (n1.map V.int) := ⟨te, rfl, .inr ht1⟩
        refine Jv.r_fld ?_
        walk_at "r"
        refine ⟨a, _, dx, _, _, rfl, s1 _ _ hga, O.o_Goals, O.n_Goals_wanted, rfl, ?_⟩
        walk_at "r"
        refine ⟨_, _, _, l, L, n1, p, q, rfl, hw, hW.same s1, ht1', .inr ⟨rfl, h1, fun rv H6 s6 dv1 => ?_⟩⟩
        walk_at "r"
        refine Jv.r_fld ?_
        walk_at "r"
        refine ⟨a, _, dx, _, _, rfl, s6 _ _ (s1 _ _ hga), O.o_Goals, O.n_Goals_knows, rfl, ?_⟩
        walk_at "r"
        have s16 := s1.trans s6
        refine mk_good (.int l) dv1 (hK.same s16) (wr.good linesL rfl) fun r H' s' _ ga => ?_
        rw [want_eq, wr.same] at ga
        exact k r H' (s16.trans s') ga
      · exact absurd hf (by decide)
      · cases hc
      · exact .inr ⟨hf, fun e H' s' he => k e H' s' he⟩
  · rcases qq with ⟨_, rfl, _⟩ | ⟨_, rfl, _⟩ | ⟨_, k⟩ | ⟨rfl, _⟩ | ⟨rfl, _⟩
    · exact absurd ew (by decide)
    · exact absurd ew (by decide)
    · exact k H (Same.refl _)
    · exact absurd ew (by decide)
    · exact absurd ew (by decide)
end
end K04

namespace K04
open PySem PySem.Spec PyProof.Rows L2
def sp_raised (K : PySem.W.Frag) (C CB : Addr) : Sp := fun vs H Q E => ∃ a x l L k0 k1, ∃ p q : Nat, ∃ d, vs = [.ref a, x] ∧ GAt K H C a l (wantT L) k0 k1 p q ∧ Wd l L p q ∧ Jv.Dv K H x d ∧
  ((∃ b, d = .int b ∧ 0 ≤ b ∧ l + b ≤ 6 ∧ ∀ r H', Same H H' → GAt K H' C r (l + b) (wantT (raiseL b L)) k0 k1 p q → Q (.ref r) H') ∨
   (Jv.wholeD d (.int 0) (.int (6 - l)) = false ∧ ∀ e H', Same H H' → H' e = some (.xd [("what", .str "ladder")]) → E (.ref CB) (some e) H'))
section
variable {P : Program} {w : World} {K : PySem.W.Frag} {mg : Str → Option Value} {base : Heap}
theorem ok_Goals_raised (T : Tx) (O : Ok K mg T) : FnOk P w K mg base (L2.CX P w) 5 T.f_Goals_raised T.d_Goals_raised ["self", "by"] (sp_raised K T.C_Goals T.C_BadGoals) := by
  refine O.F_Goals_raised.okX sc_Goals_raised (fun vs H Q E h => by obtain ⟨_, _, _, _, _, _, _, _, _, rfl, _⟩ := h; rfl) (fun cdv A outer s H vs Q E hr h => ?_)
  obtain ⟨a, x, l, L, k0, k1, p, q, d, rfl, hg, hw, hx, qq⟩ := h
  obtain ⟨dx, wv, kv, tv, hga, hW, hK, hS⟩ := id hg
  refine ⟨_, (pss_cons (ps_if (pt_not (pt_val (pe_call (ok_is_whole T O) (hr.mono (by decide)) (by rfl) O.m_is_whole O.F_is_whole.kp O.b_is_whole .nil pass0 (pa_cons (pv 1) (pa_cons pe_int (pa_cons (pe_op op_sub (pe_glob (v := .int (6)) (by rfl) O.c_LADDER_MOST ⟨_, rfl⟩) (show PE _ _ (tFld K _ _) from pe_fld (pv 0) rfl)) pa_nil)))))) (pss_one (ps_raise rfl (takes_of rfl rfl rfl rfl) (pmk_oex O.x_BadGoals.o O.x_BadGoals.n O.x_BadGoals.y (ok_BadGoalsu_initu T O) (hr.mono (by decide)) O.b_BadGoalsu_initu .nil pass0 (by rfl) O.m_BadGoals (pa_cons pe_str pa_nil)))) pss_nil)
  (pss_cons (ps_setLc (i := 2) (own := [("line", 3)]) (by rfl) sc_Goals_raised.nd rfl rfl (sw_true rfl rfl rfl (by decide +kernel)) (Jv.piOr (show PI _ _ _ (iList K _) from pi_list (show PE _ _ (tFld K _ _) from pe_fld (pv 0) rfl)) (show PI _ _ _ (iTup K _) from pi_tup (show PE _ _ (tFld K _ _) from pe_fld (pv 0) rfl))) (blkOk_by (own := [("line", 3)]) (N := ["self", "by", "wanted", "line", "ends", "end"]) (sc := defScope s_Goals_raised) (scope := ({ kind := .function, names := [(".0", .local), ("line", .local), ("by", .free)], isGenerator := false, isCoroutine := false } : Scope)) (by decide +kernel)) (fun _ _ _ _ _ => (pg_name (i := 3) sc_Goals_raised.nd rfl (Or.inl rfl))) (fun _ _ _ _ _ => pts_nil) (fun _ _ _ _ _ => (pe_lc (own := [("ends", 4)]) (by rfl) sc_Goals_raised.nd (Jv.piOr (show PI _ _ _ (iList K _) from pi_list (pv 3)) (show PI _ _ _ (iTup K _) from pi_tup (pv 3))) (blkOk_by (own := [("ends", 4)]) (N := ["self", "by", "wanted", "line", "ends", "end"]) (sc := ({ kind := .function, names := [(".0", .local), ("line", .local), ("by", .cell)], isGenerator := false, isCoroutine := false } : Scope)) (scope := ({ kind := .function, names := [(".0", .local), ("ends", .local), ("by", .free)], isGenerator := false, isCoroutine := false } : Scope)) (by decide +kernel)) (fun _ _ _ _ _ => (pg_name (i := 4) sc_Goals_raised.nd rfl (Or.inl rfl))) (fun _ _ _ _ _ => pts_nil) (fun _ _ _ _ _ => (pe_lc (own := [("end", 5)]) (by rfl) sc_Goals_raised.nd (Jv.piOr (show PI _ _ _ (iList K _) from pi_list (pv 4)) (show PI _ _ _ (iTup K _) from pi_tup (pv 4))) (blkOk_by (own := [("end", 5)]) (N := ["self", "by", "wanted", "line", "ends", "end"]) (sc := ({ kind := .function, names := [(".0", .local), ("ends", .local), ("by", .cell)], isGenerator := false, isCoroutine := false } : Scope)) (scope := ({ kind := .function, names := [(".0", .local), ("end", .local), ("raised_end", .globalImplicit), ("by", .free)], isGenerator := false, isCoroutine := false } : Scope)) (by decide +kernel)) (fun _ _ _ _ _ => (pg_name (i := 5) sc_Goals_raised.nd rfl (Or.inl rfl))) (fun _ _ _ _ _ => pts_nil) (fun _ _ _ _ _ => (pe_call (ok_raised_end T O) (hr.mono (by decide)) (by rfl) O.m_raised_end O.F_raised_end.kp O.b_raised_end .nil pass0 (pa_cons (pv 5) (pa_cons (pv 1) pa_nil)))))))))
  (pss_one (ps_ret (Jv.pe_makeX O.k_Goals (ok_Goalsu_initu T O) (hr.mono (by decide)) (by rfl) O.m_Goals O.b_Goalsu_initu .nil (fun σ => passAt (takes_of rfl rfl rfl rfl) σ) (pa_cons (pe_op op_add (show PE _ _ (tFld K _ _) from pe_fld (pv 0) rfl) (pv 1)) (pa_cons (pv 2) (pa_cons (show PE _ _ (tFld K _ _) from pe_fld (pv 0) rfl) pa_nil)))))))), ?_⟩
  walk_at "r"
  refine Jv.r_fld ?_
  walk_at "r"
  refine ⟨a, _, dx, _, _, rfl, hga, O.o_Goals, O.n_Goals_ladder, rfl, ?_⟩
  walk_at "r"
  have hp6 := hw.p6
  have hq6 := hw.q6
  have hpL := hw.hp
  refine ⟨_, _, _, _, rfl, hx, .inr ⟨_, rfl⟩, .inr ⟨_, rfl⟩, ?_⟩
  rw [hx.whole]
  walk_at "r"
  rcases qq with ⟨b, rfl, b0, b6, k⟩ | ⟨hf, k⟩
  · cases hx
    have hok : Jv.wholeD (.int b) (.int 0) (.int (6 - l)) = true := by
      show (decide (0 ≤ b) && decide (b ≤ 6 - l)) = true
      rw [decide_eq_true b0, decide_eq_true (by omega)]; rfl
    rw [hok]
    walk_at "r"
    have wr := hw.raise b0 b6
    obtain ⟨ws, skW, alW⟩ := hW.sk rfl
    have lws := alW.len
    rw [List.length_map] at lws
    refine Jv.lcS3 (K := K) (N := []) (j := 3) (fun P hP => ?_) skW .nil ((raiseL b L).map fun line => .list (line.map fun ns => .list (ns.map .int))) (by rw [List.length_map]; unfold raiseL; rw [List.length_map]; omega) (by omega) (fun i v e D1 H6 hi hv he s6 hN1 hD1 PP hP => ?_) (fun D1 ys H6 s6 hD1 eD1 dv1 _ => ?_)
    · refine Jv.r_fld ?_
      walk_at "r"
      exact ⟨a, _, dx, _, _, rfl, hga, O.o_Goals, O.n_Goals_wanted, rfl, hP⟩
    · obtain ⟨dl, c1, c2⟩ := alW.at hv
      rw [List.getElem?_map] at c1
      obtain ⟨line, c3, rfl⟩ := Option.map_eq_some_iff.mp c1
      have hline := List.mem_of_getElem? c3
      have hlq := hw.hq line hline
      have ee : e = .list ((line.map fun ns => ns.map (raiseI b)).map fun ns => .list (ns.map .int)) := by
        unfold raiseL at he
        rw [List.map_map, List.getElem?_map, c3] at he
        exact (Option.some.inj he).symm
      subst ee
      obtain ⟨us, skU, alU⟩ := (c2.same s6).sk rfl
      have lus := alU.len
      rw [List.length_map] at lus
      walk_at "r"
      refine Jv.lcS2 (K := K) (N := [D1]) (j := 4) (i := 3) rfl skU hN1 ((line.map fun ns => ns.map (raiseI b)).map fun ns => .list (ns.map .int)) (by rw [List.length_map, List.length_map]; omega) (by omega) (fun i2 u e2' D2 H7 hi2 hu he2 s7 hN2 hD2 PP2 hP2 => ?_) (fun D2 ys2 H7 s7 hD2 eD2 dv2 _ => ?_)
      · obtain ⟨dn, n1, n2⟩ := alU.at hu
        rw [List.getElem?_map] at n1
        obtain ⟨ns, n3, rfl⟩ := Option.map_eq_some_iff.mp n1
        have ee2 : e2' = .list ((ns.map (raiseI b)).map .int) := by
          rw [List.map_map, List.getElem?_map, n3] at he2
          exact (Option.some.inj he2).symm
        subst ee2
        obtain ⟨us3, skU3, alU3⟩ := (n2.same s7).sk rfl
        obtain rfl := Jv.dv_intsV alU3
        obtain ⟨few60, _⟩ := hw.range hline (List.mem_of_getElem? n3)
        walk_at "r"
        refine Jv.lcS2 (K := K) (N := [D2, D1]) (j := 5) (i := 4) rfl skU3 hN2 ((ns.map (raiseI b)).map .int) (by rw [List.length_map, List.length_map, List.length_map]) (by rw [List.length_map]; omega) (fun i3 z e3' D3 H8 hi3 hz he3 s8 hN3 hD3 PP3 hP3 => ?_) (fun D3 ys3 H8 s8 hD3 eD3 dv3 _ => ?_)
        · obtain ⟨zz, hzz, rfl⟩ := Jv.map_at hz
          have ee3 : e3' = .int (raiseI b zz) := by
            rw [List.map_map, List.getElem?_map, hzz] at he3
            exact (Option.some.inj he3).symm
          subst ee3
          walk_at "r"
          exact ⟨zz, b, rfl, hP3 _ _ (Same.refl _) (.int _)⟩
        · exact hP2 _ _ s8 (.lst (Jv.hide_at (by
            intro m
            obtain ⟨o, ho⟩ := hN2 D3 m
            rw [hD3] at ho; cases ho) eD3) dv3)
      · exact hP _ _ s7 (.lst (Jv.hide_at (by
          intro m
          obtain ⟨o, ho⟩ := hN1 D2 m
          rw [hD2] at ho; cases ho) eD2) dv2)
    · walk_at "r"
      rw [Jv.hide_nil] at dv1
      refine Jv.r_makeX ?_
      walk_at "r"
      refine Jv.r_fld ?_
      walk_at "r"
      refine ⟨a, _, dx, _, _, rfl, s6 _ _ hga, O.o_Goals, O.n_Goals_ladder, rfl, ?_⟩
      walk_at "r"
      refine Jv.r_fld ?_
      walk_at "r"
      refine ⟨a, _, dx, _, _, rfl, s6 _ _ hga, O.o_Goals, O.n_Goals_knows, rfl, ?_⟩
      walk_at "r"
      refine mk_good (.int (l + b)) (.lst eD1 dv1) (hK.same s6) (wr.good linesLL rfl) fun r H' s' _ ga => ?_
      rw [want_eq, wr.same] at ga
      exact k r H' (s6.trans s') ga
  · rw [hf]
    walk_at "r"
    refine ⟨Nat.le_of_ble_eq_true rfl, fun a ha => ⟨a, _, rfl, upd_same, fun d hd ne => ⟨rfl, d, _, upd_same, by rw [upd_ne ne]; exact upd_same, by rw [upd_ne ne] at hd; exact hd, ?_⟩⟩⟩
    rw [upd_ne ne] at hd
    exact k d _ (raise_same ha hd) upd_same
end
end K04

namespace K04
open PySem PySem.Spec PyProof.Rows L2
/-! ### goals without foes' ends -/
def plainI (ns : List Int) : List Int := ns.filter fun z => decide (0 ≤ z)
def plainL (L : List (List (List Int))) : List (List (List Int)) := L.map fun line => line.map plainI
def plainOk (L : List (List (List Int))) : Bool := L.all fun line => line.all fun ns => !(plainI ns).isEmpty
theorem plainOk_iff {L : List (List (List Int))} : plainOk L = true ↔ ∀ line ∈ L, ∀ ns ∈ line, plainI ns ≠ [] := by
  unfold plainOk
  simp only [List.all_eq_true, Bool.not_eq_true', List.isEmpty_eq_false_iff]
theorem Wd.plain {l : Int} {L : List (List (List Int))} {p q : Nat} (w : Wd l L p q) (h : plainOk L = true) : Wd l (plainL L) p q := by
  have h := plainOk_iff.mp h
  refine ⟨w.l0, w.l6, by unfold plainL; rw [List.length_map, w.hp], fun line hm => ?_, w.p0, w.p6, w.q0, w.q6, w.pq, fun line hm ns hn => ?_⟩
  · obtain ⟨l1, h1, rfl⟩ := List.mem_map.mp hm
    rw [List.length_map, w.hq l1 h1]
  · obtain ⟨l1, h1, rfl⟩ := List.mem_map.mp hm
    obtain ⟨m, h2, rfl⟩ := List.mem_map.mp hn
    obtain ⟨_, a2⟩ := w.ends l1 h1 m h2
    obtain ⟨_, a3⟩ := w.range h1 h2
    refine ⟨h l1 h1 m h2, neat_of (fun n hn => a3 n (List.mem_filter.mp hn).1) ?_⟩
    refine List.Pairwise.filter _ ?_
    rw [← a2]; exact neat_sorted
theorem lines_of {dw : PyData} {lls : List (List (List Int))} {p q : Nat} (h : LinesR dw lls) (hp : lls.length = p) (hq : ∀ line ∈ lls, line.length = q) (p0 : 1 ≤ p) : Jv.linesD dw = .some (p, q) := by
  obtain ⟨rows, e, pr⟩ := h
  have hall : (rows.all fun e => (Jv.seqD e).isSome) = true := List.all_eq_true.mpr fun r hr => by
    obtain ⟨line, _, h⟩ := memL pr hr
    exact h.some
  unfold Jv.linesD
  rw [e]; dsimp only
  rw [hall, if_pos rfl, lines_len pr]
  cases lls with
  | nil => exfalso; rw [← hp] at p0; exact absurd p0 (by decide)
  | cons a r =>
    rw [List.map_cons]
    show (if _ then _ else _) = _
    have h1 : a.length = q := hq a List.mem_cons_self
    have h2 : (r.map List.length).all (fun m => decide (m = a.length)) = true := List.all_eq_true.mpr fun m hm => by
      obtain ⟨b, hb, rfl⟩ := List.mem_map.mp hm
      exact decide_eq_true (by rw [h1]; exact hq b (List.mem_cons_of_mem _ hb))
    rw [h2, if_pos rfl, List.length_map, h1, ← hp]; rfl
theorem sides_ok {p q : Nat} (p0 : 1 ≤ p) (p6 : p ≤ 6) (q0 : 1 ≤ q) (q6 : q ≤ 6) (pq : p * q ≤ 12) : Jv.sidesD (sidesOf (.some (p, q))) = true := by
  show decide _ = true
  refine decide_eq_true ⟨⟨?_, ?_⟩, ⟨?_, ?_⟩, ?_⟩
  · omega
  · omega
  · omega
  · omega
  · exact_mod_cast pq
theorem fault_empty {l : Int} {L : List (List (List Int))} {p q : Nat} {dk : PyData} (w : Wd l L p q) (h : plainOk L = false) : faultG (.int l) (wantLL (plainL L)) dk = some "wanted" := by
  have e1 : Jv.wholeD (.int l) (.int 0) (.int 6) = true := by
    show (decide (0 ≤ l) && decide (l ≤ 6)) = true
    rw [decide_eq_true w.l0, decide_eq_true w.l6]; rfl
  have e2 : Jv.linesD (wantLL (plainL L)) = .some (p, q) := lines_of linesLL (by unfold plainL; rw [List.length_map, w.hp]) (fun line hm => by
    obtain ⟨l1, h1, rfl⟩ := List.mem_map.mp hm
    rw [List.length_map, w.hq l1 h1]) w.p0
  have e3 : allEnds l (wantLL (plainL L)) = false := by
    unfold plainOk at h
    rw [List.all_eq_false] at h
    obtain ⟨line, h1, h⟩ := h
    rw [Bool.not_eq_true, List.all_eq_false] at h
    obtain ⟨ns, h2, h⟩ := h
    have hn : plainI ns = [] := by
      cases e : plainI ns with
      | nil => rfl
      | cons a r => rw [e] at h; exact absurd rfl h
    unfold allEnds
    rw [List.all_eq_false]
    refine ⟨.list [], List.mem_flatMap.mpr ⟨.list ((line.map plainI).map fun ns => .list (ns.map .int)), ?_, ?_⟩, by simp [Jv.endsD, Jv.seqD]⟩
    · show _ ∈ (plainL L).map _
      exact List.mem_map.mpr ⟨line.map plainI, List.mem_map.mpr ⟨line, h1, rfl⟩, rfl⟩
    · show _ ∈ (line.map plainI).map _
      exact List.mem_map.mpr ⟨[], List.mem_map.mpr ⟨ns, h2, hn⟩, rfl⟩
  unfold faultG
  dsimp only
  rw [e1, e2, sides_ok w.p0 w.p6 w.q0 w.q6 w.pq, e3]; rfl
def sp_without (K : PySem.W.Frag) (C CB : Addr) : Sp := fun vs H Q E => ∃ a l L k0 k1, ∃ p q : Nat, vs = [.ref a] ∧ GAt K H C a l (wantT L) k0 k1 p q ∧ Wd l L p q ∧
  ((plainOk L = true ∧ ∀ r H', Same H H' → GAt K H' C r l (wantT (plainL L)) k0 k1 p q → Q (.ref r) H') ∨
   (plainOk L = false ∧ ∀ e H', Same H H' → H' e = some (.xd [("what", .str "wanted")]) → E (.ref CB) (some e) H'))
section
variable {P : Program} {w : World} {K : PySem.W.Frag} {mg : Str → Option Value} {base : Heap}
theorem ok_Goals_without_foes (T : Tx) (O : Ok K mg T) : FnOk P w K mg base (L2.CX P w) 5 T.f_Goals_without_foes T.d_Goals_without_foes ["self"] (sp_without K T.C_Goals T.C_BadGoals) := by
  refine O.F_Goals_without_foes.okX sc_Goals_without_foes (fun vs H Q E h => by obtain ⟨_, _, _, _, _, _, _, rfl, _⟩ := h; rfl) (fun cdv A outer s H vs Q E hr h => ?_)
  obtain ⟨a, l, L, k0, k1, p, q, rfl, hg, hw, qq⟩ := h
  obtain ⟨dx, wv, kv, tv, hga, hW, hK, hS⟩ := id hg
  refine ⟨_, (pss_cons (ps_setLc (i := 1) (own := [("line", 2)]) (by rfl) sc_Goals_without_foes.nd rfl rfl (sw_true rfl rfl rfl (by decide +kernel)) (Jv.piOr (show PI _ _ _ (iList K _) from pi_list (show PE _ _ (tFld K _ _) from pe_fld (pv 0) rfl)) (show PI _ _ _ (iTup K _) from pi_tup (show PE _ _ (tFld K _ _) from pe_fld (pv 0) rfl))) (blkOk_by (own := [("line", 2)]) (N := ["self", "wanted", "line", "ends", "end"]) (sc := defScope s_Goals_without_foes) (scope := ({ kind := .function, names := [(".0", .local), ("line", .local)], isGenerator := false, isCoroutine := false } : Scope)) (by decide +kernel)) (fun _ _ _ _ _ => (pg_name (i := 2) sc_Goals_without_foes.nd rfl (Or.inl rfl))) (fun _ _ _ _ _ => pts_nil) (fun _ _ _ _ _ => (pe_lc (own := [("ends", 3)]) (by rfl) sc_Goals_without_foes.nd (Jv.piOr (show PI _ _ _ (iList K _) from pi_list (pv 2)) (show PI _ _ _ (iTup K _) from pi_tup (pv 2))) (blkOk_by (own := [("ends", 3)]) (N := ["self", "wanted", "line", "ends", "end"]) (sc := ({ kind := .function, names := [(".0", .local), ("line", .local)], isGenerator := false, isCoroutine := false } : Scope)) (scope := ({ kind := .function, names := [(".0", .local), ("ends", .local)], isGenerator := false, isCoroutine := false } : Scope)) (by decide +kernel)) (fun _ _ _ _ _ => (pg_name (i := 3) sc_Goals_without_foes.nd rfl (Or.inl rfl))) (fun _ _ _ _ _ => pts_nil) (fun _ _ _ _ _ => (pe_lc (own := [("end", 4)]) (by rfl) sc_Goals_without_foes.nd (Jv.piOr (show PI _ _ _ (iList K _) from pi_list (pv 3)) (show PI _ _ _ (iTup K _) from pi_tup (pv 3))) (blkOk_by (own := [("end", 4)]) (N := ["self", "wanted", "line", "ends", "end"]) (sc := ({ kind := .function, names := [(".0", .local), ("ends", .local)], isGenerator := false, isCoroutine := false } : Scope)) (scope := ({ kind := .function, names := [(".0", .local), ("end", .local)], isGenerator := false, isCoroutine := false } : Scope)) (by decide +kernel)) (fun _ _ _ _ _ => (pg_name (i := 4) sc_Goals_without_foes.nd rfl (Or.inl rfl))) (fun _ _ _ _ _ => (pts_one (pt_cmpR op_ge (pv 4) pe_int (nomark _)))) (fun _ _ _ _ _ => (pv 4)))))))
  (pss_one (ps_ret (Jv.pe_makeX O.k_Goals (ok_Goalsu_initu T O) (hr.mono (by decide)) (by rfl) O.m_Goals O.b_Goalsu_initu .nil (fun σ => passAt (takes_of rfl rfl rfl rfl) σ) (pa_cons (show PE _ _ (tFld K _ _) from pe_fld (pv 0) rfl) (pa_cons (pv 1) (pa_cons (show PE _ _ (tFld K _ _) from pe_fld (pv 0) rfl) pa_nil))))))), ?_⟩
  walk_at "r"
  have hp6 := hw.p6
  have hq6 := hw.q6
  have hpL := hw.hp
  obtain ⟨ws, skW, alW⟩ := hW.sk rfl
  have lws := alW.len
  rw [List.length_map] at lws
  refine Jv.lcS3 (K := K) (N := []) (j := 2) (fun P hP => ?_) skW .nil ((plainL L).map fun line => .list (line.map fun ns => .list (ns.map .int))) (by rw [List.length_map]; unfold plainL; rw [List.length_map]; omega) (by omega) (fun i v e D1 H6 hi hv he s6 hN1 hD1 PP hP => ?_) (fun D1 ys H6 s6 hD1 eD1 dv1 _ => ?_)
  · refine Jv.r_fld ?_
    walk_at "r"
    exact ⟨a, _, dx, _, _, rfl, hga, O.o_Goals, O.n_Goals_wanted, rfl, hP⟩
  · obtain ⟨dl, c1, c2⟩ := alW.at hv
    rw [List.getElem?_map] at c1
    obtain ⟨line, c3, rfl⟩ := Option.map_eq_some_iff.mp c1
    have hline := List.mem_of_getElem? c3
    have hlq := hw.hq line hline
    have ee : e = .list ((line.map plainI).map fun ns => .list (ns.map .int)) := by
      unfold plainL at he
      rw [List.map_map, List.getElem?_map, c3] at he
      exact (Option.some.inj he).symm
    subst ee
    obtain ⟨us, skU, alU⟩ := (c2.same s6).sk rfl
    have lus := alU.len
    rw [List.length_map] at lus
    walk_at "r"
    refine Jv.lcS2 (K := K) (N := [D1]) (j := 3) (i := 2) rfl skU hN1 ((line.map plainI).map fun ns => .list (ns.map .int)) (by rw [List.length_map, List.length_map]; omega) (by omega) (fun i2 u e2' D2 H7 hi2 hu he2 s7 hN2 hD2 PP2 hP2 => ?_) (fun D2 ys2 H7 s7 hD2 eD2 dv2 _ => ?_)
    · obtain ⟨dn, n1, n2⟩ := alU.at hu
      rw [List.getElem?_map] at n1
      obtain ⟨ns, n3, rfl⟩ := Option.map_eq_some_iff.mp n1
      have ee2 : e2' = .list ((plainI ns).map .int) := by
        rw [List.map_map, List.getElem?_map, n3] at he2
        exact (Option.some.inj he2).symm
      subst ee2
      obtain ⟨us3, skU3, alU3⟩ := (n2.same s7).sk rfl
      obtain rfl := Jv.dv_intsV alU3
      obtain ⟨few60, _⟩ := hw.range hline (List.mem_of_getElem? n3)
      walk_at "r"
      refine Jv.lcF2 (K := K) (j := 4) (i := 3) rfl skU3 (fun z => decide (0 ≤ z)) (by omega) (fun z H8 hz s8 R hR => ?_) (fun z H8 PP3 hP3 => ?_) (fun D3 H8 s8 hD3 eD3 => ?_)
      · walk_at "r"
        exact hR _ (Same.refl _)
      · walk_at "r"
        exact hP3
      · exact hP2 _ _ s8 (.lst (Jv.hide_at (by
          intro m
          obtain ⟨o, ho⟩ := hN2 D3 m
          rw [hD3] at ho; cases ho) eD3) (Jv.dv_ints _))
    · exact hP _ _ s7 (.lst (Jv.hide_at (by
        intro m
        obtain ⟨o, ho⟩ := hN1 D2 m
        rw [hD2] at ho; cases ho) eD2) dv2)
  · walk_at "r"
    rw [Jv.hide_nil] at dv1
    refine Jv.r_makeX ?_
    walk_at "r"
    refine Jv.r_fld ?_
    walk_at "r"
    refine ⟨a, _, dx, _, _, rfl, s6 _ _ hga, O.o_Goals, O.n_Goals_ladder, rfl, ?_⟩
    walk_at "r"
    refine Jv.r_fld ?_
    walk_at "r"
    refine ⟨a, _, dx, _, _, rfl, s6 _ _ hga, O.o_Goals, O.n_Goals_knows, rfl, ?_⟩
    walk_at "r"
    rcases qq with ⟨hok, k⟩ | ⟨hf, k⟩
    · have wr := hw.plain hok
      refine mk_good (.int l) (.lst eD1 dv1) (hK.same s6) (wr.good linesLL rfl) fun r H' s' _ ga => ?_
      rw [want_eq, wr.same] at ga
      exact k r H' (s6.trans s') ga
    · refine mk_bad (.int l) (.lst eD1 dv1) (few_lines linesLL (by unfold plainL; rw [List.length_map]; omega) (fun line hm => ?_) fun line hm ns hn => ?_) (hK.same s6) (fault_empty hw hf) fun e H' s' he => k e H' (s6.trans s') he
      · obtain ⟨l1, h1, rfl⟩ := List.mem_map.mp hm
        rw [List.length_map, hw.hq l1 h1]; omega
      · obtain ⟨l1, h1, rfl⟩ := List.mem_map.mp hm
        obtain ⟨m, h2, rfl⟩ := List.mem_map.mp hn
        obtain ⟨few60, _⟩ := hw.range h1 h2
        exact Nat.le_trans (List.length_filter_le _ _) (by omega)
end
end K04

namespace K04
open PySem PySem.Spec PyProof.Rows L2
/-! ### goals with an end more -/
def putL (L : List (List (List Int))) (e f : Int) (ns : List Int) : List (List (List Int)) := L.set e.toNat (((L[e.toNat]?).getD []).set f.toNat ns)
def wantS (M : List (List (List Int))) : PyData := .list (M.map fun line => .list (line.map fun ns => .tuple (ns.map .int)))
theorem linesS {L : List (List (List Int))} : LinesR (wantS L) L := ⟨_, rfl, pair_map fun line _ => ⟨_, rfl, pair_map fun ns _ => rfl⟩⟩
section
variable {l e f : Int} {L : List (List (List Int))} {p q : Nat} {ns : List Int}
theorem Wd.neatL (w : Wd l L p q) {line : List (List Int)} (h : line ∈ L) : line.map (neatI l) = line := by
  have : ∀ ns ∈ line, neatI l ns = ns := fun ns h2 => (w.ends line h ns h2).2
  rw [List.map_congr_left (g := id) this, List.map_id]
theorem Wd.put (w : Wd l L p q) (he : 0 ≤ e ∧ e < p) (hf : 0 ≤ f ∧ f < q) : ((putL L e f ns).map fun line => line.map (neatI l)) = putL L e f (neatI l ns) := by
  obtain ⟨line, a1, a2, _, _⟩ := w.at he hf
  unfold putL
  rw [List.map_set, w.same, a1]
  show L.set _ ((line.set _ _).map _) = L.set _ (line.set _ _)
  rw [List.map_set, w.neatL a2]
theorem Wd.goodPut (w : Wd l L p q) (he : 0 ≤ e ∧ e < p) (hf : 0 ≤ f ∧ f < q) (n0 : ns ≠ []) (n60 : ns.length ≤ 60) (nr : ∀ n ∈ ns, -l ≤ n ∧ n ≤ l) {dw dk : PyData} {k0 k1 : Bool} (h : LinesR dw (putL L e f ns)) (hk : Jv.seqD dk = some [.bool k0, .bool k1]) : GoodG (.int l) dw dk l (putL L e f ns) k0 k1 p q := by
  obtain ⟨line, a1, a2, _, _⟩ := w.at he hf
  have el : putL L e f ns = L.set e.toNat (line.set f.toNat ns) := by unfold putL; rw [a1]; rfl
  refine ⟨rfl, w.l0, w.l6, h, by rw [el, List.length_set, w.hp], fun li hl => ?_, w.p0, w.p6, w.q0, w.q6, w.pq, fun li hl ms hm => ?_, hk⟩
  · rw [el] at hl
    rcases List.mem_or_eq_of_mem_set hl with h1 | rfl
    · exact w.hq li h1
    · rw [List.length_set, w.hq line a2]
  · rw [el] at hl
    rcases List.mem_or_eq_of_mem_set hl with h1 | rfl
    · exact ⟨(w.ends li h1 ms hm).1, w.range h1 hm⟩
    · rcases List.mem_or_eq_of_mem_set hm with h1 | rfl
      · exact ⟨(w.ends line a2 ms h1).1, w.range a2 h1⟩
      · exact ⟨n0, n60, nr⟩
end
theorem nodup_at {α : Type} {l : List α} (nd : l.Nodup) {i j : Nat} {x : α} (hi : l[i]? = some x) (hj : l[j]? = some x) : i = j := by
  obtain ⟨h1, e1⟩ := List.getElem?_eq_some_iff.mp hi
  obtain ⟨h2, e2⟩ := List.getElem?_eq_some_iff.mp hj
  have pw := List.pairwise_iff_getElem.mp nd
  rcases Nat.lt_trichotomy i j with lt | e | lt
  · exact absurd (e1.trans e2.symm) (pw i j h1 h2 lt)
  · exact e
  · exact absurd (e2.trans e1.symm) (pw j i h2 h1 lt)
def sp_with_end (K : PySem.W.Frag) (C CC CE : Addr) : Sp := fun vs H Q E => ∃ a x y l L k0 k1, ∃ p q : Nat, ∃ d1 d2, vs = [.ref a, x, y] ∧ GAt K H C a l (wantT L) k0 k1 p q ∧ Wd l L p q ∧ Jv.Dv K H x d1 ∧ Jv.Dv K H y d2 ∧
  ((∃ e f z, Jv.seqD d1 = some [.int e, .int f] ∧ (0 ≤ e ∧ e < p) ∧ (0 ≤ f ∧ f < q) ∧ d2 = .int z ∧ (-l ≤ z ∧ z ≤ l) ∧ ∀ r H', Same H H' → GAt K H' C r l (wantT (putL L e f (neatI l (cell L e f ++ [z])))) k0 k1 p q → Q (.ref r) H') ∨
   (coupleD p q d1 = false ∧ ∀ H', Same H H' → E (.ref CC) none H') ∨
   (∃ e f, Jv.seqD d1 = some [.int e, .int f] ∧ (0 ≤ e ∧ e < p) ∧ (0 ≤ f ∧ f < q) ∧ Jv.wholeD d2 (.int (-l)) (.int l) = false ∧ ∀ H', Same H H' → E (.ref CE) none H'))
section
variable {P : Program} {w : World} {K : PySem.W.Frag} {mg : Str → Option Value} {base : Heap}
theorem ok_Goals_with_end (T : Tx) (O : Ok K mg T) : FnOk P w K mg base (L2.CX P w) 5 T.f_Goals_with_end T.d_Goals_with_end ["self", "couple", "end"] (sp_with_end K T.C_Goals T.C_BadCouple T.C_BadEnd) := by
  refine O.F_Goals_with_end.okX sc_Goals_with_end (fun vs H Q E h => by obtain ⟨_, _, _, _, _, _, _, _, _, _, _, rfl, _⟩ := h; rfl) (fun cdv A outer s H vs Q E hr h => ?_)
  obtain ⟨a, x, y, l, L, k0, k1, p, q, d1, d2, rfl, hg, hw, hx, hy, qq⟩ := h
  obtain ⟨dx, wv, kv, tv, hga, hW, hK, hS⟩ := id hg
  refine ⟨_, (pss_cons (ps_asg (pe_callS (ok_check_couple T O) (hr.mono (by decide)) (by rfl) O.m_check_couple O.F_check_couple.kp O.b_check_couple (fun σ => passAt (takes_of rfl rfl rfl rfl) σ) (pa_cons (show PE _ _ (tFld K _ _) from pe_fld (pv 0) rfl) (pa_cons (pv 1) pa_nil))) (pg_tup rfl (pgs_cons (pg_name (i := 3) sc_Goals_with_end.nd rfl (Or.inl rfl)) (pgs_cons (pg_name (i := 4) sc_Goals_with_end.nd rfl (Or.inl rfl)) pgs_nil))))
  (pss_cons (ps_if (pt_not (pt_val (pe_call (ok_is_whole T O) (hr.mono (by decide)) (by rfl) O.m_is_whole O.F_is_whole.kp O.b_is_whole .nil pass0 (pa_cons (pv 2) (pa_cons (pe_un un_neg (show PE _ _ (tFld K _ _) from pe_fld (pv 0) rfl)) (pa_cons (show PE _ _ (tFld K _ _) from pe_fld (pv 0) rfl) pa_nil)))))) (pss_one (ps_raise rfl (takes_of rfl rfl rfl rfl) (Jv.pmk_own0 PySem.F.excBase_ValueError O.e_BadEnd.x O.m_BadEnd O.e_BadEnd.k (O.e_BadEnd.raises) (by rfl)))) pss_nil)
  (pss_cons (ps_setLc (i := 5) (own := [("line", 6)]) (by rfl) sc_Goals_with_end.nd rfl rfl (sw_true rfl rfl rfl (by decide +kernel)) (Jv.piOr (show PI _ _ _ (iList K _) from pi_list (show PE _ _ (tFld K _ _) from pe_fld (pv 0) rfl)) (show PI _ _ _ (iTup K _) from pi_tup (show PE _ _ (tFld K _ _) from pe_fld (pv 0) rfl))) (blkOk_by (own := [("line", 6)]) (N := ["self", "couple", "end", "east", "west", "wanted", "line"]) (sc := defScope s_Goals_with_end) (scope := ({ kind := .function, names := [(".0", .local), ("line", .local), ("list", .globalImplicit)], isGenerator := false, isCoroutine := false } : Scope)) (by decide +kernel)) (fun _ _ _ _ _ => (pg_name (i := 6) sc_Goals_with_end.nd rfl (Or.inl rfl))) (fun _ _ _ _ _ => pts_nil) (fun _ _ _ _ _ => (pe_callTy (r := Jv.rListOf K) call_list_of (by rfl) O.z_list (by decide +kernel) (pa_cons (pv 6) pa_nil))))
  (pss_cons (ps_asg (pe_op (r := rCatT K) op_catT (pe_ix (r := rIx K) ix_seq (pe_ix (r := rIx K) ix_seq (pv 5) (pv 3) (fun _ _ => rfl)) (pv 4) (fun _ _ => rfl)) (pe_tup (pa_cons (pv 2) pa_nil))) (pg_sub (pe_ix (r := rIx K) ix_seq (pv 5) (pv 3) (fun _ _ => rfl)) (pv 4) set_list))
  (pss_one (ps_ret (Jv.pe_makeX O.k_Goals (ok_Goalsu_initu T O) (hr.mono (by decide)) (by rfl) O.m_Goals O.b_Goalsu_initu .nil (fun σ => passAt (takes_of rfl rfl rfl rfl) σ) (pa_cons (show PE _ _ (tFld K _ _) from pe_fld (pv 0) rfl) (pa_cons (pv 5) (pa_cons (show PE _ _ (tFld K _ _) from pe_fld (pv 0) rfl) pa_nil)))))))))), ?_⟩
  walk_at "r"
  refine Jv.r_fld ?_
  walk_at "r"
  refine ⟨a, _, dx, _, _, rfl, hga, O.o_Goals, O.n_Goals_sides, rfl, ?_⟩
  walk_at "r"
  obtain ⟨ss, skS, alS⟩ := hS.sk rfl
  have alS2 := alS
  cases alS2 with
  | cons c1 c2 =>
  cases c1
  cases c2 with
  | cons c1 c2 =>
  cases c1
  cases c2
  have hp6 := hw.p6
  have hq6 := hw.q6
  have hpL := hw.hp
  refine ⟨_, _, _, _, _, rfl, skS, hx, ?_⟩
  have hc : (coupleD p q d1 = false ∧ ∀ H', Same H H' → E (.ref T.C_BadCouple) none H') ∨ ∃ e f, Jv.seqD d1 = some [.int e, .int f] ∧ (0 ≤ e ∧ e < (p : Int)) ∧ (0 ≤ f ∧ f < (q : Int)) ∧
      ((Jv.wholeD d2 (.int (-l)) (.int l) = false ∧ ∀ H', Same H H' → E (.ref T.C_BadEnd) none H') ∨ ∃ z, d2 = .int z ∧ (-l ≤ z ∧ z ≤ l) ∧ ∀ r H', Same H H' → GAt K H' T.C_Goals r l (wantT (putL L e f (neatI l (cell L e f ++ [z])))) k0 k1 p q → Q (.ref r) H') := by
    rcases qq with ⟨e, f, z, h1, h2, h3, h4, h5, k⟩ | h | ⟨e, f, h1, h2, h3, h4, k⟩
    · exact .inr ⟨e, f, h1, h2, h3, .inr ⟨z, h4, h5, k⟩⟩
    · exact .inl h
    · exact .inr ⟨e, f, h1, h2, h3, .inl ⟨h4, k⟩⟩
  rcases hc with ⟨hf, k⟩ | ⟨e, f, h1, h2, h3, hc⟩
  · exact .inr ⟨hf, fun H' s' => k H' s'⟩
  refine .inl ⟨e, f, h1, h2, h3, fun t H1 s1 ht1 => ?_⟩
  walk_at "r"
  refine Jv.r_fld ?_
  walk_at "r"
  refine ⟨a, _, dx, _, _, rfl, s1 _ _ hga, O.o_Goals, O.n_Goals_ladder, rfl, ?_⟩
  walk_at "r"
  refine Jv.r_fld ?_
  walk_at "r"
  refine ⟨a, _, dx, _, _, rfl, s1 _ _ hga, O.o_Goals, O.n_Goals_ladder, rfl, ?_⟩
  walk_at "r"
  refine ⟨_, _, _, _, rfl, hy.same s1, .inr ⟨_, rfl⟩, .inr ⟨_, rfl⟩, ?_⟩
  rw [hy.whole]
  walk_at "r"
  rcases hc with ⟨hf, k⟩ | ⟨z, rfl, hz, k⟩
  · rw [hf]
    walk_at "r"
    exact k H1 s1
  cases hy
  have hok : Jv.wholeD (.int z) (.int (-l)) (.int l) = true := by
    show (decide (-l ≤ z) && decide (z ≤ l)) = true
    rw [decide_eq_true hz.1, decide_eq_true hz.2]; rfl
  rw [hok]
  walk_at "r"
  obtain ⟨line, a1, a2, a3, a4⟩ := hw.at h2 h3
  obtain ⟨cn0, cn1⟩ := hw.range a2 a4
  have hW1 := hW.same s1
  obtain ⟨ws, skW, alW⟩ := hW1.sk rfl
  have lws := alW.len
  rw [List.length_map] at lws
  obtain ⟨F, hF⟩ := Jv.rows_of alW (fun d hd => by
    obtain ⟨li, _, rfl⟩ := List.mem_map.mp hd
    rfl)
  refine Jv.lcOwn (K := K) (j := 6) (fun P hP => ?_) skW F (by omega) (fun i v D1 H6 hi hv s6 hD1 PP hP => ?_) (fun D1 As H6 s6 hD1 lA nd nD hn eD1 al => ?_)
  · refine Jv.r_fld ?_
    walk_at "r"
    exact ⟨a, _, dx, _, _, rfl, s1 _ _ hga, O.o_Goals, O.n_Goals_wanted, rfl, hP⟩
  · obtain ⟨dl, c1, _⟩ := alW.at hv
    obtain ⟨⟨b, rfl, hb⟩, _⟩ := hF i v dl hv c1
    walk_at "r"
    refine ⟨b, _, rfl, hb.imp (fun h => s6.seq h) (fun h => Jv.Same.sqT s6 h), fun t2 ht2 => ?_⟩
    exact hP t2 _ ht2 (Jv.same_new ht2) upd_same
  · have heL : e.toNat < As.length := by omega
    obtain ⟨b, hbA⟩ : ∃ b, As[e.toNat]? = some b := ⟨_, List.getElem?_eq_getElem heL⟩
    have hbm := List.mem_of_getElem? hbA
    have eb := al _ b hbA
    have hwe : e.toNat < ws.length := by omega
    obtain ⟨_, es, he1, he2⟩ := hF e.toNat ws[e.toNat] (lineT line) (List.getElem?_eq_getElem hwe) (by rw [List.getElem?_map, a1]; rfl)
    cases he1
    have hlq := hw.hq line a2
    have lF := he2.len
    rw [List.length_map] at lF
    obtain ⟨cv, c1, c2⟩ := he2.of (i := f.toNat) (d := .tuple ((cell L e f).map .int)) (by rw [List.getElem?_map, a3]; rfl)
    have skA : Jv.Sk K H6 (.ref D1) (As.map V.ref) := ⟨D1, rfl, .inl (Jv.sqL_at eD1)⟩
    have atA : (As.map V.ref)[e.toNat]? = some (V.ref b) := by rw [List.getElem?_map, hbA]; rfl
    walk_at "r"
    refine skA.ix (Jv.at_i h2.1 atA) ?_
    walk_at "r"
    refine Jv.Sk.ix (xs := F e.toNat) ⟨b, rfl, .inl (Jv.sqL_at eb)⟩ (Jv.at_i h3.1 c1) ?_
    walk_at "r"
    intro t2 ht2
    obtain ⟨ca, rfl, hca⟩ : ∃ ca, cv = .ref ca ∧ SqT K H1 ca ((cell L e f).map V.int) := by
      cases c2 with
      | tup h qd => rw [Jv.dv_intsV qd] at h; exact ⟨_, rfl, h⟩
    have s62 := s6.trans (Jv.same_new (u := .tup [.int z]) ht2)
    have cne : (cell L e f) ≠ [] := (hw.ends line a2 _ a4).1
    refine ⟨ca, t2, _, [.int z], rfl, rfl, Jv.Same.sqT s62 hca, Jv.sqT_at upd_same, fun hh => cne (List.map_eq_nil_iff.mp hh), ?_, fun hh => (by cases hh), fun _ t3 ht3 => ?_⟩
    · rw [List.length_map]
      exact Jv.small_of (by simp; omega)
    · walk_at "r"
      have n2D : D1 ≠ t2 := fun hh => by rw [← hh, eD1] at ht2; cases ht2
      have n2b : b ≠ t2 := fun hh => by rw [← hh, eb] at ht2; cases ht2
      have eD3 : upd (upd H6 t2 (.tup [.int z])) t3 (.tup ((cell L e f).map V.int ++ [.int z])) D1 = some (.lst (As.map V.ref)) := ((Jv.same_new ht2).trans (Jv.same_new ht3)) _ _ eD1
      have eb3 : upd (upd H6 t2 (.tup [.int z])) t3 (.tup ((cell L e f).map V.int ++ [.int z])) b = some (.lst (F e.toNat)) := ((Jv.same_new ht2).trans (Jv.same_new ht3)) _ _ eb
      have et3 : upd (upd H6 t2 (.tup [.int z])) t3 (.tup ((cell L e f).map V.int ++ [.int z])) t3 = some (.tup ((cell L e f).map V.int ++ [.int z])) := upd_same
      have s63 : Same H6 (upd (upd H6 t2 (.tup [.int z])) t3 (.tup ((cell L e f).map V.int ++ [.int z]))) := (Jv.same_new ht2).trans (Jv.same_new ht3)
      have n3 : H6 t3 = none := (Jv.same_new ht2).free ht3
      generalize upd (upd H6 t2 (.tup [.int z])) t3 (.tup ((cell L e f).map V.int ++ [.int z])) = H7 at eD3 eb3 et3 s63 ⊢
      refine Jv.Sk.ix (xs := As.map V.ref) ⟨D1, rfl, .inl (Jv.sqL_at eD3)⟩ (Jv.at_i h2.1 atA) ?_
      walk_at "r"
      refine Jv.r_setL eb3 (j := f.toNat) (by rw [← Int.toNat_of_nonneg h3.1]; exact Jv.ixN_of (by omega)) ?_
      have bD : b ≠ D1 := fun hh => nD (hh ▸ hbm)
      have b3 : t3 ≠ b := fun hh => by rw [hh, eb] at n3; cases n3
      have s17 : Same H1 (upd H7 b (.lst ((F e.toNat).set f.toNat (.ref t3)))) := fun c o hc => by
        have hcb : c ≠ b := fun hh => by rw [hh, hn b hbm] at hc; cases hc
        rw [upd_ne hcb]
        exact s63 _ _ (s6 _ _ hc)
      have eD8 : upd H7 b (.lst ((F e.toNat).set f.toNat (.ref t3))) D1 = some (.lst (As.map V.ref)) := by rw [upd_ne bD.symm]; exact eD3
      have et8 : upd H7 b (.lst ((F e.toNat).set f.toNat (.ref t3))) t3 = some (.tup ((cell L e f).map V.int ++ [.int z])) := by rw [upd_ne b3]; exact et3
      have al8 : ∀ (k : Nat) c, As[k]? = some c → c ≠ b → upd H7 b (.lst ((F e.toNat).set f.toNat (.ref t3))) c = some (.lst (F k)) := fun k c hc nb => by
        rw [upd_ne nb]; exact s63 _ _ (al k c hc)
      have eb8 : upd H7 b (.lst ((F e.toNat).set f.toNat (.ref t3))) b = some (.lst ((F e.toNat).set f.toNat (.ref t3))) := upd_same
      generalize upd H7 b (.lst ((F e.toNat).set f.toNat (.ref t3))) = H8 at s17 eD8 et8 al8 eb8 ⊢
      have el : putL L e f (cell L e f ++ [z]) = L.set e.toNat (line.set f.toNat (cell L e f ++ [z])) := by unfold putL; rw [a1]; rfl
      have dv1 : Jv.Dv K H8 (.ref D1) (wantS (putL L e f (cell L e f ++ [z]))) := by
        refine .lst eD8 (Jv.dvAll_mk (by rw [List.length_map, List.length_map, el, List.length_set]; omega) fun i v d hv hd => ?_)
        rw [List.getElem?_map] at hv hd
        obtain ⟨c, hc, rfl⟩ := Option.map_eq_some_iff.mp hv
        obtain ⟨li, hli, rfl⟩ := Option.map_eq_some_iff.mp hd
        rw [el] at hli
        by_cases hie : i = e.toNat
        · subst hie
          rw [hbA] at hc; cases hc
          rw [List.getElem?_set_self (by omega)] at hli
          cases hli
          refine .lst eb8 (Jv.dvAll_mk (by rw [List.length_map, List.length_set, List.length_set]; omega) fun j v d hv hd => ?_)
          rw [List.getElem?_map] at hd
          obtain ⟨ms, hms, rfl⟩ := Option.map_eq_some_iff.mp hd
          by_cases hjf : j = f.toNat
          · subst hjf
            rw [List.getElem?_set_self (by omega)] at hms hv
            cases hms; cases hv
            refine .tup (Jv.sqT_at et8) ?_
            rw [show (cell L e f).map V.int ++ [V.int z] = (cell L e f ++ [z]).map V.int by rw [List.map_append]; rfl]
            exact Jv.dv_ints _
          · rw [List.getElem?_set_ne (fun hh => hjf hh.symm)] at hms hv
            obtain ⟨d', e1, e2⟩ := he2.at hv
            rw [List.getElem?_map, hms] at e1
            cases e1
            exact e2.same s17
        · rw [List.getElem?_set_ne (fun hh => hie hh.symm)] at hli
          have hcb : c ≠ b := fun hh => by
            subst hh
            exact hie (nodup_at nd hc hbA)
          have hiw : i < ws.length := by
            have := (List.getElem?_eq_some_iff.mp hli).1
            omega
          obtain ⟨_, es, g1, g2⟩ := hF i ws[i] (lineT li) (List.getElem?_eq_getElem hiw) (by rw [List.getElem?_map, hli]; rfl)
          cases g1
          exact .lst (al8 i c hc hcb) (g2.same s17)
      walk_at "r"
      have s08 := s1.trans s17
      refine Jv.r_makeX ?_
      walk_at "r"
      refine Jv.r_fld ?_
      walk_at "r"
      refine ⟨a, _, dx, _, _, rfl, s08 _ _ hga, O.o_Goals, O.n_Goals_ladder, rfl, ?_⟩
      walk_at "r"
      refine Jv.r_fld ?_
      walk_at "r"
      refine ⟨a, _, dx, _, _, rfl, s08 _ _ hga, O.o_Goals, O.n_Goals_knows, rfl, ?_⟩
      walk_at "r"
      refine mk_good (.int l) dv1 (hK.same s08) (hw.goodPut h2 h3 (by simp) (by rw [List.length_append]; have := neat_len (l := l) (ns := cell L e f) (by have := hw.l6; omega); rw [(hw.ends line a2 _ a4).2] at this; simp; omega) (fun n hn => ?_) linesS rfl) fun r H' s' _ ga => ?_
      · rcases List.mem_append.mp hn with hn | hn
        · exact cn1 n hn
        · rw [List.mem_singleton.mp hn]; exact hz
      · rw [want_eq, hw.put h2 h3] at ga
        exact k r H' (s08.trans s') ga
end
end K04

namespace K04
open PySem PySem.Spec PyProof.Rows L2
/-! ### goals that want all -/
def rangeL (l : Int) : List Int := (List.range (2 * l + 1).toNat).map fun (i : Nat) => (i : Int) - l
def fullL (l : Int) (p q : Nat) : List (List (List Int)) := List.replicate p (List.replicate q (rangeL l))
theorem range_len {l : Int} (h : l ≤ 6) : (rangeL l).length ≤ 15 := by
  unfold rangeL; rw [List.length_map, List.length_range]; omega
theorem full_wd {l : Int} {p q : Nat} (l0 : 0 ≤ l) (l6 : l ≤ 6) (p0 : 1 ≤ p) (p6 : p ≤ 6) (q0 : 1 ≤ q) (q6 : q ≤ 6) (pq : p * q ≤ 12) : Wd l (fullL l p q) p q := by
  refine ⟨l0, l6, by unfold fullL; rw [List.length_replicate], fun line hm => ?_, p0, p6, q0, q6, pq, fun line hm ns hn => ?_⟩
  · rw [List.eq_of_mem_replicate hm, List.length_replicate]
  · rw [List.eq_of_mem_replicate hm] at hn
    rw [List.eq_of_mem_replicate hn]
    refine ⟨fun e => ?_, neat_of (fun n hn => ?_) ?_⟩
    · have := congrArg List.length e
      unfold rangeL at this
      rw [List.length_map, List.length_range] at this
      simp at this; omega
    · obtain ⟨i, hi, rfl⟩ := List.mem_map.mp hn
      rw [List.mem_range] at hi
      omega
    · unfold rangeL
      rw [List.pairwise_map]
      exact List.pairwise_lt_range.imp fun h => by omega
theorem fault_knows {l : Int} {L : List (List (List Int))} {p q : Nat} {dw dk : PyData} (w : Wd l L p q) (h : LinesR dw L) (hk : Jv.knowsD dk = false) : faultG (.int l) dw dk = some "knows" := by
  have g := w.good (dk := .tuple [.bool false, .bool false]) h rfl
  have h1 := g.whole; have h2 := g.sides; have h3 := g.allEnds
  unfold faultG
  dsimp only
  rw [h1, h2, h3, hk]; rfl
theorem r_lstRg2 {ta tb : TE} {σ : L2.St} {H : Hp} {Q : VK} (h : ta σ H fun x H1 => tb σ H1 fun y H2 => ∃ i j, x = .int i ∧ y = .int j ∧ RgOk i j ∧ ∀ q, H2 q = none → Q (.ref q) (upd H2 q (.lst (rgV i j)))) : tLstRg (tRg2 ta tb) σ H Q := h
theorem dvAll_rep {K : PySem.W.Frag} {H : Hp} {v : V} {d : PyData} : ∀ n : Nat, Jv.Dv K H v d → Jv.DvAll K H (List.replicate n v) (List.replicate n d)
  | 0, _ => .nil
  | n + 1, h => .cons h (dvAll_rep n h)
def sp_all_wanted (K : PySem.W.Frag) (C CB : Addr) : Sp := fun vs H Q E => ∃ x y z d1 d2 d3, vs = [x, y, z] ∧ Jv.Dv K H x d1 ∧ Jv.Dv K H y d2 ∧ Jv.Dv K H z d3 ∧
  ((∃ l k0 k1, ∃ p q : Nat, d2 = .int l ∧ (0 ≤ l ∧ l ≤ 6) ∧ Jv.seqD d1 = some [.int p, .int q] ∧ (1 ≤ p ∧ p ≤ 6) ∧ (1 ≤ q ∧ q ≤ 6) ∧ p * q ≤ 12 ∧ Jv.seqD d3 = some [.bool k0, .bool k1] ∧ ∀ r H', Same H H' → GAt K H' C r l (wantT (fullL l p q)) k0 k1 p q → Q (.ref r) H') ∨
   (Jv.wholeD d2 (.int 0) (.int 6) = false ∧ ∀ e H', Same H H' → H' e = some (.xd [("what", .str "ladder")]) → E (.ref CB) (some e) H') ∨
   (Jv.wholeD d2 (.int 0) (.int 6) = true ∧ Jv.sidesD d1 = false ∧ ∀ e H', Same H H' → H' e = some (.xd [("what", .str "sides")]) → E (.ref CB) (some e) H') ∨
   (∃ l, ∃ p q : Nat, d2 = .int l ∧ (0 ≤ l ∧ l ≤ 6) ∧ Jv.seqD d1 = some [.int p, .int q] ∧ (1 ≤ p ∧ p ≤ 6) ∧ (1 ≤ q ∧ q ≤ 6) ∧ p * q ≤ 12 ∧ Jv.knowsD d3 = false ∧ ∀ e H', Same H H' → H' e = some (.xd [("what", .str "knows")]) → E (.ref CB) (some e) H'))
theorem sidesD_of {d : PyData} {p q : Nat} (e : Jv.seqD d = some [.int p, .int q]) (hp : 1 ≤ p ∧ p ≤ 6) (hq : 1 ≤ q ∧ q ≤ 6) (pq : p * q ≤ 12) : Jv.sidesD d = true := by
  unfold Jv.sidesD
  rw [e]
  exact sides_ok hp.1 hp.2 hq.1 hq.2 pq
section
variable {P : Program} {w : World} {K : PySem.W.Frag} {mg : Str → Option Value} {base : Heap}
theorem ok_Goals_all_wanted (T : Tx) (O : Ok K mg T) : FnOk P w K mg base (L2.CX P w) 5 T.f_Goals_all_wanted T.d_Goals_all_wanted ["sides", "ladder", "knows"] (sp_all_wanted K T.C_Goals T.C_BadGoals) := by
  refine FunD.ok O.F_Goals_all_wanted sc_Goals_all_wanted (fun vs H Q E h => by obtain ⟨_, _, _, _, _, _, rfl, _⟩ := h; rfl) (fun cdv A outer s H vs Q E hr h => ?_)
  obtain ⟨x, y, z, d1, d2, d3, rfl, hx, hy, hz, qq⟩ := h
  refine ⟨_, (pss_cons (ps_if (pt_not (pt_val (pe_call (ok_is_whole T O) (hr.mono (by decide)) (by rfl) O.m_is_whole O.F_is_whole.kp O.b_is_whole .nil pass0 (pa_cons (pv 1) (pa_cons pe_int (pa_cons (pe_glob (v := .int (6)) (by rfl) O.c_LADDER_MOST ⟨_, rfl⟩) pa_nil)))))) (pss_one (ps_raise rfl (takes_of rfl rfl rfl rfl) (pmk_oex O.x_BadGoals.o O.x_BadGoals.n O.x_BadGoals.y (ok_BadGoalsu_initu T O) (hr.mono (by decide)) O.b_BadGoalsu_initu .nil pass0 (by rfl) O.m_BadGoals (pa_cons pe_str pa_nil)))) pss_nil)
  (pss_cons (ps_if (pt_not (pt_val (pe_call (ok_are_sides T O) (hr.mono (by decide)) (by rfl) O.m_are_sides O.F_are_sides.kp O.b_are_sides .nil pass0 (pa_cons (pv 0) pa_nil)))) (pss_one (ps_raise rfl (takes_of rfl rfl rfl rfl) (pmk_oex O.x_BadGoals.o O.x_BadGoals.n O.x_BadGoals.y (ok_BadGoalsu_initu T O) (hr.mono (by decide)) O.b_BadGoalsu_initu .nil pass0 (by rfl) O.m_BadGoals (pa_cons pe_str pa_nil)))) pss_nil)
  (pss_cons (ps_set (i := 3) sc_Goals_all_wanted.nd rfl (Or.inl rfl) (pe_listRg rfl (by rfl) O.z_list (prg_2 (by rfl) O.z_range (pe_un un_neg (pv 1)) (pe_op op_add (pv 1) pe_int))))
  (pss_one (ps_ret (Jv.pe_makeX O.k_Goals (ok_Goalsu_initu T O) (hr.mono (by decide)) (by rfl) O.m_Goals O.b_Goalsu_initu .nil (fun σ => passAt (takes_of rfl rfl rfl rfl) σ) (pa_cons (pv 1) (pa_cons (pe_op op_rep (pe_lst (pa_cons (pe_op op_rep (pe_lst (pa_cons (pv 3) pa_nil)) (pe_ix (r := rIx K) ix_seq (pv 0) (pe_glob (v := .int (1)) (by rfl) O.c_WEST ⟨_, rfl⟩) (fun _ _ => rfl))) pa_nil)) (pe_ix (r := rIx K) ix_seq (pv 0) (pe_glob (v := .int (0)) (by rfl) O.c_EAST ⟨_, rfl⟩) (fun _ _ => rfl))) (pa_cons (pv 2) pa_nil))))))))), ?_⟩
  walk_at "r"
  have rz : ∀ (f : Str) (Hx : Hp) (σ : L2.St), Same H Hx → (∀ e H', Same H H' → H' e = some (.xd [("what", .str f)]) → E (.ref T.C_BadGoals) (some e) H') → tMkO T.C_BadGoals (sp_BadX_init T.C_BadGoals "what") [] (tCons (tC (.str f)) tNil) σ Hx (fun cls d H' => E cls d H') := fun f Hx σ sx k =>
    ⟨Nat.le_of_ble_eq_true rfl, fun a ha => ⟨a, _, rfl, upd_same, fun d hd ne => ⟨rfl, d, _, upd_same, by rw [upd_ne ne]; exact upd_same, by rw [upd_ne ne] at hd; exact hd, by
      rw [upd_ne ne] at hd
      exact k d _ (sx.trans (raise_same ha hd)) upd_same⟩⟩⟩
  refine ⟨_, _, _, _, rfl, hy, .inr ⟨_, rfl⟩, .inr ⟨_, rfl⟩, ?_⟩
  rw [hy.whole]
  walk_at "r"
  have whole_of : ∀ l : Int, 0 ≤ l ∧ l ≤ 6 → Jv.wholeD (.int l) (.int 0) (.int 6) = true := fun l h => by
    show (decide (0 ≤ l) && decide (l ≤ 6)) = true
    rw [decide_eq_true h.1, decide_eq_true h.2]; rfl
  cases ew : Jv.wholeD d2 (.int 0) (.int 6) with
  | false =>
    walk_at "r"
    rcases qq with ⟨l, _, _, _, _, rfl, hl, _⟩ | ⟨_, k⟩ | ⟨hf, _⟩ | ⟨l, _, _, rfl, hl, _⟩
    · rw [whole_of l hl] at ew; cases ew
    · exact rz _ _ _ (Same.refl _) k
    · rw [hf] at ew; cases ew
    · rw [whole_of l hl] at ew; cases ew
  | true =>
  obtain ⟨l, rfl, l0, l6⟩ := Jv.wholeD_int ew
  cases hy
  walk_at "r"
  refine ⟨_, _, rfl, hx, fun H1 s1 => ?_⟩
  walk_at "r"
  cases es : Jv.sidesD d1 with
  | false =>
    walk_at "r"
    rcases qq with ⟨l', _, _, p, q, e1, hl, e2, hp, hq, pq, _⟩ | ⟨hf, _⟩ | ⟨_, _, k⟩ | ⟨l', p, q, e1, hl, e2, hp, hq, pq, _⟩
    · rw [sidesD_of e2 hp hq pq] at es; cases es
    · rw [hf] at ew; cases ew
    · exact rz _ _ _ s1 k
    · rw [sidesD_of e2 hp hq pq] at es; cases es
  | true =>
  walk_at "r"
  have hc : ∃ p q : Nat, Jv.seqD d1 = some [.int p, .int q] ∧ (1 ≤ p ∧ p ≤ 6) ∧ (1 ≤ q ∧ q ≤ 6) ∧ p * q ≤ 12 ∧ ((∃ k0 k1, Jv.seqD d3 = some [.bool k0, .bool k1] ∧ ∀ r H', Same H H' → GAt K H' T.C_Goals r l (wantT (fullL l p q)) k0 k1 p q → Q (.ref r) H') ∨
      (Jv.knowsD d3 = false ∧ ∀ e H', Same H H' → H' e = some (.xd [("what", .str "knows")]) → E (.ref T.C_BadGoals) (some e) H')) := by
    rcases qq with ⟨l', k0, k1, p, q, e1, hl, e2, hp, hq, pq, e3, k⟩ | ⟨hf, _⟩ | ⟨_, hf, _⟩ | ⟨l', p, q, e1, hl, e2, hp, hq, pq, hf, k⟩
    · cases e1
      exact ⟨p, q, e2, hp, hq, pq, .inl ⟨k0, k1, e3, k⟩⟩
    · rw [hf] at ew; cases ew
    · rw [hf] at es; cases es
    · cases e1
      exact ⟨p, q, e2, hp, hq, pq, .inr ⟨hf, k⟩⟩
  obtain ⟨p, q, e2, hp, hq, pq, hc⟩ := hc
  refine r_lstRg2 ?_
  walk_at "r"
  have rok : RgOk (-l) (l + 1) := ⟨by omega, by omega, by omega, by omega, by omega⟩
  refine ⟨-l, l + 1, rfl, rfl, rok, fun a ha => ?_⟩
  walk_at "r"
  have er : rgV (-l) (l + 1) = (rangeL l).map V.int := by
    unfold rgV rangeL
    rw [List.map_map, show (l + 1 - -l).toNat = (2 * l + 1).toNat by congr 1; omega]
    refine List.map_congr_left fun i _ => ?_
    show V.int (-l + (i : Int)) = V.int ((i : Int) - l)
    congr 1; omega
  rw [er]
  obtain ⟨ss, skS, alS⟩ := hx.sk e2
  cases alS with
  | cons c1 c2 =>
  cases c1
  cases c2 with
  | cons c1 c2 =>
  cases c1
  cases c2
  have wf := full_wd l0 l6 hp.1 hp.2 hq.1 hq.2 pq
  have sA := s1.trans (Jv.same_new (u := .lst ((rangeL l).map V.int)) ha)
  have eA : upd H1 a (.lst ((rangeL l).map V.int)) a = some (.lst ((rangeL l).map V.int)) := upd_same
  generalize upd H1 a (.lst ((rangeL l).map V.int)) = HA at sA eA ⊢
  refine Jv.r_makeX ?_
  walk_at "r"
  intro b hb
  have sB := sA.trans (Jv.same_new (u := .lst [.ref a]) hb)
  have eAB : upd HA b (.lst [.ref a]) a = some (.lst ((rangeL l).map V.int)) := Jv.kp eA hb
  have eB : upd HA b (.lst [.ref a]) b = some (.lst [.ref a]) := upd_same
  generalize upd HA b (.lst [.ref a]) = HB at sB eAB eB ⊢
  walk_at "r"
  refine (skS.same sB).ix (v := .int q) rfl ?_
  refine ⟨b, q, [.ref a], rfl, rfl, eB, by omega, by omega, Jv.small_of (by simp; omega), fun c hcn => ?_⟩
  rw [Int.toNat_natCast, Jv.flat_one]
  have sC := sB.trans (Jv.same_new (u := .lst (List.replicate q (.ref a))) hcn)
  have eAC : upd HB c (.lst (List.replicate q (.ref a))) a = some (.lst ((rangeL l).map V.int)) := Jv.kp eAB hcn
  have eC : upd HB c (.lst (List.replicate q (.ref a))) c = some (.lst (List.replicate q (.ref a))) := upd_same
  generalize upd HB c (.lst (List.replicate q (.ref a))) = HC at sC eAC eC ⊢
  walk_at "r"
  intro d hd
  have sD := sC.trans (Jv.same_new (u := .lst [.ref c]) hd)
  have eAD : upd HC d (.lst [.ref c]) a = some (.lst ((rangeL l).map V.int)) := Jv.kp eAC hd
  have eCD : upd HC d (.lst [.ref c]) c = some (.lst (List.replicate q (.ref a))) := Jv.kp eC hd
  have eD : upd HC d (.lst [.ref c]) d = some (.lst [.ref c]) := upd_same
  generalize upd HC d (.lst [.ref c]) = HD at sD eAD eCD eD ⊢
  walk_at "r"
  refine (skS.same sD).ix (v := .int p) rfl ?_
  refine ⟨d, p, [.ref c], rfl, rfl, eD, by omega, by omega, Jv.small_of (by simp; omega), fun t ht => ?_⟩
  rw [Int.toNat_natCast, Jv.flat_one]
  have sE := sD.trans (Jv.same_new (u := .lst (List.replicate p (.ref c))) ht)
  have eAE : upd HD t (.lst (List.replicate p (.ref c))) a = some (.lst ((rangeL l).map V.int)) := Jv.kp eAD ht
  have eCE : upd HD t (.lst (List.replicate p (.ref c))) c = some (.lst (List.replicate q (.ref a))) := Jv.kp eCD ht
  have eE : upd HD t (.lst (List.replicate p (.ref c))) t = some (.lst (List.replicate p (.ref c))) := upd_same
  generalize upd HD t (.lst (List.replicate p (.ref c))) = HE at sE eAE eCE eE ⊢
  walk_at "r"
  have dv : Jv.Dv K HE (.ref t) (wantLL (fullL l p q)) := by
    refine .lst eE ?_
    unfold fullL
    rw [List.map_replicate]
    refine dvAll_rep p (.lst eCE ?_)
    rw [List.map_replicate]
    exact dvAll_rep q (.lst eAE (Jv.dv_ints _))
  rcases hc with ⟨k0, k1, e3, k⟩ | ⟨hf, k⟩
  · refine mk_good (.int l) dv (hz.same sE) (wf.good linesLL e3) fun r H' s' _ ga => ?_
    rw [want_eq, wf.same] at ga
    exact k r H' (sE.trans s') ga
  · refine mk_bad (.int l) dv (few_lines linesLL (by rw [wf.hp]; omega) (fun line hm => by rw [wf.hq line hm]; omega) fun line hm ns hn => by have := (wf.range hm hn).1; omega) (hz.same sE) (fault_knows wf linesLL hf) fun e H' s' he => k e H' (sE.trans s') he
end
end K04

namespace Jv
open PySem PySem.Spec PyProof.Rows L2
/-! ### the hand beside data -/
section
variable {K : PySem.W.Frag} {H H' H1 : Hp} {p l b : Addr} {o : HO}
theorem Hand.ne2 (h : Hand H p l) (n : H b = none) : b ≠ p ∧ b ≠ l := by
  obtain ⟨ns, k, c, t, hA⟩ := h
  exact ⟨fun e => (by rw [e, hA.hp] at n; cases n), fun e => (by rw [e, hA.hl] at n; cases n)⟩
theorem Hand.upd (h : Hand H p l) (n1 : b ≠ p) (n2 : b ≠ l) : Hand (L2.upd H b o) p l := by
  obtain ⟨ns, k, c, t, hA⟩ := h
  exact ⟨ns, k, c, t, by rw [upd_ne n1.symm]; exact hA.hp, by rw [upd_ne n2.symm]; exact hA.hl, hA.nn, hA.few, hA.bd⟩
theorem Kp.free (k : Kp p H H') (h : Hand H' p l) (n : H' b = none) : H b = none := by
  cases e : H b with
  | none => rfl
  | some o =>
    obtain ⟨u, hu⟩ := h.at
    by_cases nb : b = p
    · rw [nb, hu] at n; cases n
    · rw [k b o nb e] at n; cases n
theorem Kp.hide (k : Kp p H H') : Same (Jv.hide [p] H) (Jv.hide [p] H') := fun b o e => by
  obtain ⟨n, e2⟩ := hide_some e
  exact hide_at n (k b o (fun h => n (by rw [h]; exact List.mem_singleton.mpr rfl)) e2)
theorem hide_one {p b : Addr} {o : HO} (n : b ≠ p) (h : H b = some o) : Jv.hide [p] H b = some o := hide_at (fun m => n (List.mem_singleton.mp m)) h
end
end Jv
namespace K04
open PySem PySem.Spec PyProof.Rows L2
/-! ### the law's own things -/
def sp_Lwhole (K : PySem.W.Frag) : Sp := fun vs H Q _ => ∃ x d, vs = [x] ∧ Jv.Dv K H x d ∧ Q (.bl (Jv.intD d)) H
def sp_Lends : Sp := fun vs H Q _ => ∃ h l lad, vs = [.ref h, .int lad] ∧ Jv.Hand H h l ∧ (0 ≤ lad ∧ lad ≤ 6) ∧ ∀ (r : Addr) (ns : List Int) (H' : Hp), ns ≠ [] → ns.length ≤ 4 → (∀ n ∈ ns, -lad ≤ n ∧ n ≤ lad) → H r = none → H' r = some (.lst (ns.map V.int)) → Jv.Kp h H H' → Jv.Hand H' h l → Q (.ref r) H'
def sp_Lneat (K : PySem.W.Frag) : Sp := fun vs H Q _ => ∃ x ns lad, vs = [x, .int lad] ∧ Jv.Sk K H x (ns.map V.int) ∧ (0 ≤ lad ∧ lad ≤ 6) ∧ ns.length ≤ 60 ∧ ∀ t H', Same H H' → H t = none → H' t = some (.tup ((neatI lad ns).map V.int)) → Q (.ref t) H'
def sp_Ltruths : Sp := fun vs H Q _ => ∃ h l, vs = [.ref h] ∧ Jv.Hand H h l ∧ ∀ (r : Addr) (k0 k1 : Bool) (H' : Hp), H r = none → H' r = some (.tup [.bl k0, .bl k1]) → Jv.Kp h H H' → Jv.Hand H' h l → Q (.ref r) H'
theorem inV_ints {z : Int} : ∀ {ns : List Int}, inV (.int z) (ns.map V.int) = decide (z ∈ ns)
  | [] => by simp [inV]
  | a :: r => by
    have ih := inV_ints (z := z) (ns := r)
    unfold inV at ih ⊢
    rw [List.map_cons, List.any_cons, ih]
    by_cases h : a = z
    · subst h; simp [eqV]
    · have h2 : ¬ z = a := fun e => h e.symm
      simp [eqV, h, h2]
theorem flat_ints (ns : List Int) : (ns.map V.int).all flatV = true := by
  rw [List.all_map, List.all_eq_true]; intro n _; rfl
section
variable {P : Program} {w : World} {K : PySem.W.Frag} {mg : Str → Option Value} {base : Heap}
theorem ok_Lwhole (T : Tx) (O : Ok K mg T) : FnOk P w K mg base CX0 1 T.f_Lwhole T.d_Lwhole ["_law_thing"] (sp_Lwhole K) := by
  refine O.F_Lwhole.ok sc_Lwhole (fun vs H Q E h => by obtain ⟨_, _, rfl, _⟩ := h; rfl) (fun cdv A outer s H vs Q E hr h => ?_)
  obtain ⟨x, d, rfl, hx, q⟩ := h
  refine ⟨_, (pss_one (ps_ret (pe_and (pe_callB (r := rIsi K) call_isi (by rfl) O.z_isinstance (by decide +kernel) (pa_cons (pv 0) (pa_cons (pe_bltn (v := .ty "int") (by rfl) O.z_int (by decide +kernel) rfl) pa_nil))) (pe_one (pe_not (pe_callB (r := rIsi K) call_isi (by rfl) O.z_isinstance (by decide +kernel) (pa_cons (pv 0) (pa_cons (pe_bltn (v := .ty "bool") (by rfl) O.z_bool (by decide +kernel) rfl) pa_nil)))))))), ?_⟩
  walk_at "r"
  cases hx <;> walk_at "r" <;> exact q
theorem ok_Lends (T : Tx) (O : Ok K mg T) : FnOk P w K mg base CX0 3 T.f_Lends T.d_Lends ["_law_hand_here", "_law_ladder"] sp_Lends := by
  refine O.F_Lends.ok sc_Lends (fun vs H Q E h => by obtain ⟨_, _, _, rfl, _⟩ := h; rfl) (fun cdv A outer s H vs Q E hr h => ?_)
  obtain ⟨h, l, lad, rfl, hh, ⟨l0, l1⟩, k⟩ := h
  refine ⟨_, (pss_cons (ps_set (i := 2) sc_Lends.nd rfl (Or.inl rfl) (pe_lst (pa_cons (pe_op op_sub (pe_call (ok_Ldraw T O) (hr.mono (by decide)) (by rfl) O.m_Ldraw O.F_Ldraw.kp O.b_Ldraw .nil pass0 (pa_cons (pv 0) (pa_cons (pe_op op_add (pe_op op_mul pe_int (pv 1)) pe_int) pa_nil))) (pv 1)) pa_nil)))
  (pss_cons (ps_for PassesOwn.never rfl (pi_range1 (by rfl) O.z_range (pa_cons (pe_call (ok_Ldraw T O) (hr.mono (by decide)) (by rfl) O.m_Ldraw O.F_Ldraw.kp O.b_Ldraw .nil pass0 (pa_cons (pv 0) (pa_cons pe_int pa_nil))) pa_nil)) (pg_name (i := 3) sc_Lends.nd rfl (Or.inl rfl)) (pss_one (ps_expr (show PE _ _ (tBM K _ _ _ _) from pe_bm PySem.F.plainAttrs_list PySem.F.slot_list_append PySem.F.type_list_append mt_append (pv 2) (pa_cons (pe_op op_sub (pe_call (ok_Ldraw T O) (hr.mono (by decide)) (by rfl) O.m_Ldraw O.F_Ldraw.kp O.b_Ldraw .nil pass0 (pa_cons (pv 0) (pa_cons (pe_op op_add (pe_op op_mul pe_int (pv 1)) pe_int) pa_nil))) (pv 1)) pa_nil)))))
  (pss_one (ps_ret (pv 2))))), ?_⟩
  walk_at "r"
  refine ⟨h, l, _, rfl, hh, ⟨by omega, Jv.log_small (by omega) (by omega)⟩, fun z H1 z0 z1 k1 h1 => ?_⟩
  walk_at "r"
  intro b hb
  have hbH := k1.free h1 hb
  obtain ⟨nbh, nbl⟩ := hh.ne2 hbH
  walk_at "r"
  refine ⟨h, l, _, rfl, h1.upd nbh nbl, ⟨by decide, Jv.log_small (by decide) (by decide)⟩, fun m H2 m0 m1 k2 h2 => ?_⟩
  walk_at "r"
  refine ⟨m, rfl, by omega, by omega, ?_⟩
  have kb : Jv.Kp h H H2 := (k1.trans (Jv.Kp.new hb)).trans k2
  have eb := k2 b _ nbh upd_same
  refine for_range (lo := 0) (n := m.toNat) (fun i σ H3 => ∃ y3 ns, σ = [some (.ref h), some (.int lad), some (.ref b), y3] ∧ Jv.Kp h H H3 ∧ Jv.Hand H3 h l ∧ H3 b = some (.lst (ns.map V.int)) ∧ ns ≠ [] ∧ ns.length = i + 1 ∧ ∀ n ∈ ns, -lad ≤ n ∧ n ≤ lad) ⟨_, [z - lad], rfl, kb, h2, eb, by simp, rfl, fun n hn => by rw [List.mem_singleton.mp hn]; omega⟩ ?_ ?_
  · rintro i σ H3 hi ⟨y3, ns, rfl, k3, h3, e3, n0, ln, nb⟩
    walk_at "r"
    refine ⟨h, l, _, rfl, h3, ⟨by omega, Jv.log_small (by omega) (by omega)⟩, fun y H4 y0 y1 k4 h4 => ?_⟩
    walk_at "r"
    have e4 := k4 b _ nbh e3
    refine Jv.r_app e4 (by rw [List.length_map]; omega) ?_
    refine ⟨_, ns ++ [y - lad], rfl, fun c o nc hc => ?_, h4.upd nbh nbl, by rw [upd_same, List.map_append]; rfl, by simp, by rw [List.length_append, ln]; rfl, fun n hn => ?_⟩
    · rw [upd_ne (ne_of_none hc hbH)]; exact k4 c o nc (k3 c o nc hc)
    · rcases List.mem_append.mp hn with hn | hn
      · exact nb n hn
      · rw [List.mem_singleton.mp hn]; omega
  · rintro σ H3 ⟨y3, ns, rfl, k3, h3, e3, n0, ln, nb⟩
    walk_at "r"
    exact k b ns H3 n0 (by omega) nb hbH e3 k3 h3
theorem ok_Lneat (T : Tx) (O : Ok K mg T) : FnOk P w K mg base CX0 1 T.f_Lneat T.d_Lneat ["_law_ends_here", "_law_ladder"] (sp_Lneat K) := by
  refine O.F_Lneat.ok sc_Lneat (fun vs H Q E h => by obtain ⟨_, _, _, rfl, _⟩ := h; rfl) (fun cdv A outer s H vs Q E hr h => ?_)
  obtain ⟨x, ns, lad, rfl, hx, ⟨l0, l1⟩, few, k⟩ := h
  refine ⟨_, (pss_one (ps_ret (pe_callTy (r := Jv.rTupOf K) call_tuple_of (by rfl) O.z_tuple (by decide +kernel) (pa_cons (pe_lc (own := [("_law_end", 2)]) (by rfl) sc_Lneat.nd (pi_range2 (by rfl) O.z_range (pa_cons (pe_un un_neg (pv 1)) (pa_cons (pe_op op_add (pv 1) pe_int) pa_nil))) (blkOk_by (own := [("_law_end", 2)]) (N := ["_law_ends_here", "_law_ladder", "_law_end"]) (sc := defScope s_Lneat) (scope := ({ kind := .function, names := [(".0", .local), ("_law_end", .local), ("_law_ends_here", .free)], isGenerator := false, isCoroutine := false } : Scope)) (by decide +kernel)) (fun _ _ _ _ _ => (pg_name (i := 2) sc_Lneat.nd rfl (Or.inl rfl))) (fun _ _ _ _ _ => (pts_one (pt_cmpR (r := rIn K false) op_in_seq (pv 2) (pv 0) rfl))) (fun _ _ _ _ _ => (pv 2))) pa_nil)))), ?_⟩
  walk_at "r"
  refine Jv.r_lc ?_
  walk_at "r"
  refine ⟨-lad, lad + 1, rfl, ⟨by omega, by omega, by omega, by omega⟩, ?_⟩
  intro D hD
  have en : (lad + 1 - -lad).toNat = (2 * lad + 1).toNat := by congr 1; omega
  refine lc_it (walk_range (lo := -lad) (n := (lad + 1 - -lad).toNat)) (fun i H1 => Same H H1 ∧ H1 D = some (.lst ((((List.range i).map fun (i : Nat) => (i : Int) - lad).filter fun n => decide (n ∈ ns)).map V.int))) ⟨Jv.same_new hD, upd_same⟩ (fun _ _ _ _ => trivial) ?_ ?_
  · rintro i v H1 H2 hi ⟨s1, e1⟩ ⟨rfl, rfl⟩
    walk_at "r"
    obtain ⟨a, rfl, ha⟩ := hx.same s1
    refine ⟨a, ns.map V.int, rfl, ha, rfl, flat_ints ns, ?_⟩
    rw [if_neg Bool.false_ne_true, inV_ints]
    have ez : -lad + (i : Int) = (i : Int) - lad := by omega
    rw [ez]
    have more : (((List.range (i + 1)).map fun (i : Nat) => (i : Int) - lad).filter fun n => decide (n ∈ ns)) = (((List.range i).map fun (i : Nat) => (i : Int) - lad).filter fun n => decide (n ∈ ns)) ++ if decide (((i : Int) - lad) ∈ ns) = true then [(i : Int) - lad] else [] := by
      rw [List.range_succ, List.map_append, List.filter_append]
      congr 1
      by_cases c : ((i : Int) - lad) ∈ ns <;> simp [c]
    cases c : decide (((i : Int) - lad) ∈ ns) with
    | true =>
      rw [c, if_pos rfl] at more
      walk_at "r"
      refine ⟨_, e1, ?_, fun b o e => Jv.kpO (s1 b o e) (ne_of_none e hD), ?_⟩
      · rw [List.length_map]
        refine Jv.small_lt (Nat.lt_of_le_of_lt (List.length_filter_le _ _) ?_)
        rw [List.length_map, List.length_range]; omega
      · rw [upd_same, more, List.map_append]
        show some (HO.lst (_ ++ [V.int (-lad + (i : Int))])) = some (HO.lst (_ ++ [V.int ((i : Int) - lad)]))
        rw [ez]
    | false =>
      rw [c, if_neg Bool.false_ne_true, List.append_nil] at more
      walk_at "r"
      refine ⟨s1, ?_⟩
      rw [more]; exact e1
  · rintro H1 ⟨s1, e1⟩
    rw [en] at e1
    walk_at "r"
    refine ⟨D, _, rfl, .inl ⟨Jv.sqL_at e1, fun t ht => ?_⟩⟩
    exact k t _ (s1.trans (Jv.same_new ht)) (s1.free ht) upd_same
theorem ok_Ltruths (T : Tx) (O : Ok K mg T) : FnOk P w K mg base CX0 3 T.f_Ltruths T.d_Ltruths ["_law_hand_here"] sp_Ltruths := by
  refine O.F_Ltruths.ok sc_Ltruths (fun vs H Q E h => by obtain ⟨_, _, rfl, _⟩ := h; rfl) (fun cdv A outer s H vs Q E hr h => ?_)
  obtain ⟨h, l, rfl, hh, k⟩ := h
  refine ⟨_, (pss_one (ps_ret (pe_tup (pa_cons (pe_cmpR op_eq (pe_call (ok_Ldraw T O) (hr.mono (by decide)) (by rfl) O.m_Ldraw O.F_Ldraw.kp O.b_Ldraw .nil pass0 (pa_cons (pv 0) (pa_cons pe_int pa_nil))) pe_int (nomark _)) (pa_cons (pe_cmpR op_eq (pe_call (ok_Ldraw T O) (hr.mono (by decide)) (by rfl) O.m_Ldraw O.F_Ldraw.kp O.b_Ldraw .nil pass0 (pa_cons (pv 0) (pa_cons pe_int pa_nil))) pe_int (nomark _)) pa_nil))))), ?_⟩
  walk_at "r"
  refine ⟨h, l, _, rfl, hh, ⟨by decide, Jv.log_small (by decide) (by decide)⟩, fun x H1 x0 x1 k1 h1 => ?_⟩
  walk_at "r"
  refine ⟨h, l, _, rfl, h1, ⟨by decide, Jv.log_small (by decide) (by decide)⟩, fun y H2 y0 y1 k2 h2 => ?_⟩
  walk_at "r"
  intro t ht
  have kk := k1.trans k2
  exact k t _ _ _ (kk.free h2 ht) upd_same (kk.trans (Jv.Kp.new ht)) (h2.same (Jv.same_new ht))
end
end K04

namespace K04
open PySem PySem.Spec PyProof.Rows L2
/-! ### wanted ends, drawn and neat -/
/-- lists of lists of ends, of a shape -/
structure Rw (l : Int) (L : List (List (List Int))) (p q : Nat) : Prop where
  hp : L.length = p
  hq : ∀ line ∈ L, line.length = q
  ends : ∀ line ∈ L, ∀ ns ∈ line, ns ≠ [] ∧ ns.length ≤ 60 ∧ ∀ n ∈ ns, -l ≤ n ∧ n ≤ l
def neatL (l : Int) (L : List (List (List Int))) : List (List (List Int)) := L.map fun line => line.map (neatI l)
theorem Rw.neat {l : Int} {L : List (List (List Int))} {p q : Nat} (r : Rw l L p q) (l0 : 0 ≤ l) (l6 : l ≤ 6) (hp : 1 ≤ p ∧ p ≤ 6) (hq : 1 ≤ q ∧ q ≤ 6) (pq : p * q ≤ 12) : Wd l (neatL l L) p q := by
  refine ⟨l0, l6, by unfold neatL; rw [List.length_map, r.hp], fun line hm => ?_, hp.1, hp.2, hq.1, hq.2, pq, fun line hm ns hn => ?_⟩
  · obtain ⟨l1, h1, rfl⟩ := List.mem_map.mp hm
    rw [List.length_map, r.hq l1 h1]
  · obtain ⟨l1, h1, rfl⟩ := List.mem_map.mp hm
    obtain ⟨m, h2, rfl⟩ := List.mem_map.mp hn
    obtain ⟨a1, _, a3⟩ := r.ends l1 h1 m h2
    refine ⟨fun e => ?_, neat_of (fun n hn => (mem_neat.mp hn).1) neat_sorted⟩
    obtain ⟨x, hx⟩ := List.exists_mem_of_ne_nil m a1
    have : x ∈ neatI l m := mem_neat.mpr ⟨a3 x hx, hx⟩
    rw [e] at this; cases this
theorem _root_.Jv.hide_mem {N : List Addr} {H : Hp} {D : Addr} {o : HO} (m : D ∈ N) : Jv.hide N (upd H D o) = Jv.hide N H := by
  funext b
  unfold Jv.hide
  by_cases mb : b ∈ N
  · rw [if_pos mb, if_pos mb]
  · rw [if_neg mb, if_neg mb]
    exact upd_ne fun e => mb (by rw [e]; exact m)
theorem _root_.Jv.hide_kp {N M : List Addr} {H H' : Hp} {p : Addr} (hp : p ∈ N) (hs : ∀ c ∈ M, c ∈ N) (k : Jv.Kp p H H') : Same (Jv.hide N H) (Jv.hide M H') := fun b o e => by
  obtain ⟨n, e2⟩ := Jv.hide_some e
  exact Jv.hide_at (fun m => n (hs b m)) (k b o (fun h => n (by rw [h]; exact hp)) e2)
theorem pair_snoc {α β : Type} {F : α → β → Prop} {x : α} {y : β} : ∀ {xs : List α} {ys : List β}, Paired F xs ys → F x y → Paired F (xs ++ [x]) (ys ++ [y])
  | _, _, .nil, h => .cons h .nil
  | _, _, .cons a b, h => .cons a (pair_snoc b h)
def RawIn (K : PySem.W.Frag) (h l sa a b : Addr) (lad : Int) (i : Nat) (H1 : Hp) (j : Nat) (σ : L2.St) (H2 : Hp) : Prop := ∃ y6 y7 us es line, σ = [some (.ref h), some (.ref sa), some (.int lad), some (.ref a), some (.int (0 + (i : Int))), some (.ref b), y6, y7] ∧
  Jv.Kp h H1 H2 ∧ Jv.Hand H2 h l ∧ H2 b = some (.lst us) ∧ Jv.DvAll K (Jv.hide [h, a, b] H2) us es ∧ Paired EndsR es line ∧ line.length = j ∧ ∀ ns ∈ line, ns ≠ [] ∧ ns.length ≤ 60 ∧ ∀ n ∈ ns, -lad ≤ n ∧ n ≤ lad
def RawOut (K : PySem.W.Frag) (h l sa a : Addr) (lad : Int) (q : Nat) (H : Hp) (i : Nat) (σ : L2.St) (H1 : Hp) : Prop := ∃ y4 y5 y6 y7 xs ds L, σ = [some (.ref h), some (.ref sa), some (.int lad), some (.ref a), y4, y5, y6, y7] ∧
  Jv.Kp h H H1 ∧ Jv.Hand H1 h l ∧ H1 a = some (.lst xs) ∧ Jv.DvAll K (Jv.hide [h, a] H1) xs ds ∧ Paired LineR ds L ∧ Rw lad L i q
def sp_Lneat_wanted (K : PySem.W.Frag) : Sp := fun vs H Q _ => ∃ x d L l, ∃ p q : Nat, vs = [x, .int l] ∧ Jv.Dv K H x d ∧ LinesR d L ∧ Rw l L p q ∧ (0 ≤ l ∧ l ≤ 6) ∧ (p ≤ 60 ∧ q ≤ 60) ∧ ∀ t H', Same H H' → Jv.Dv K H' (.ref t) (wantT (neatL l L)) → Q (.ref t) H'
def sp_Lraw_wanted (K : PySem.W.Frag) : Sp := fun vs H Q _ => ∃ h l s lad, ∃ p q : Nat, vs = [.ref h, .ref s, .int lad] ∧ Jv.Hand H h l ∧ H s = some (.tup [.int p, .int q]) ∧ (0 ≤ lad ∧ lad ≤ 6) ∧ (p ≤ 6 ∧ q ≤ 6) ∧
  ∀ r d L H', Jv.Dv K (Jv.hide [h] H') r d → LinesR d L → Rw lad L p q → Jv.Kp h H H' → Jv.Hand H' h l → Q r H'
section
variable {P : Program} {w : World} {K : PySem.W.Frag} {mg : Str → Option Value} {base : Heap}
theorem ok_Lneat_wanted (T : Tx) (O : Ok K mg T) : FnOk P w K mg base CX0 2 T.f_Lneat_wanted T.d_Lneat_wanted ["_law_lines", "_law_ladder"] (sp_Lneat_wanted K) := by
  refine O.F_Lneat_wanted.ok sc_Lneat_wanted (fun vs H Q E h => by obtain ⟨_, _, _, _, _, _, rfl, _⟩ := h; rfl) (fun cdv A outer s H vs Q E hr h => ?_)
  obtain ⟨x, d, L, l, p, q, rfl, hx, hL, hR, ⟨l0, l6⟩, ⟨hp, hq⟩, k⟩ := h
  refine ⟨_, (pss_one (ps_ret (pe_callTy (r := Jv.rTupOf K) call_tuple_of (by rfl) O.z_tuple (by decide +kernel) (pa_cons (pe_lc (own := [("_law_line", 2)]) (by rfl) sc_Lneat_wanted.nd (Jv.piOr (show PI _ _ _ (iList K _) from pi_list (pv 0)) (show PI _ _ _ (iTup K _) from pi_tup (pv 0))) (blkOk_by (own := [("_law_line", 2)]) (N := ["_law_lines", "_law_ladder", "_law_line", "_law_ends_here"]) (sc := defScope s_Lneat_wanted) (scope := ({ kind := .function, names := [(".0", .local), ("_law_line", .local), ("tuple", .globalImplicit), ("_law_ladder", .free)], isGenerator := false, isCoroutine := false } : Scope)) (by decide +kernel)) (fun _ _ _ _ _ => (pg_name (i := 2) sc_Lneat_wanted.nd rfl (Or.inl rfl))) (fun _ _ _ _ _ => pts_nil) (fun _ _ _ _ _ => (pe_callTy (r := Jv.rTupOf K) call_tuple_of (by rfl) O.z_tuple (by decide +kernel) (pa_cons (pe_lc (own := [("_law_ends_here", 3)]) (by rfl) sc_Lneat_wanted.nd (Jv.piOr (show PI _ _ _ (iList K _) from pi_list (pv 2)) (show PI _ _ _ (iTup K _) from pi_tup (pv 2))) (blkOk_by (own := [("_law_ends_here", 3)]) (N := ["_law_lines", "_law_ladder", "_law_line", "_law_ends_here"]) (sc := ({ kind := .function, names := [(".0", .local), ("_law_line", .local), ("tuple", .globalImplicit), ("_law_ladder", .cell)], isGenerator := false, isCoroutine := false } : Scope)) (scope := ({ kind := .function, names := [(".0", .local), ("_law_ends_here", .local), ("_law_neat", .globalImplicit), ("_law_ladder", .free)], isGenerator := false, isCoroutine := false } : Scope)) (by decide +kernel)) (fun _ _ _ _ _ => (pg_name (i := 3) sc_Lneat_wanted.nd rfl (Or.inl rfl))) (fun _ _ _ _ _ => pts_nil) (fun _ _ _ _ _ => (pe_call (ok_Lneat T O) (hr.mono (by decide)) (by rfl) O.m_Lneat O.F_Lneat.kp O.b_Lneat .nil pass0 (pa_cons (pv 3) (pa_cons (pv 1) pa_nil))))) pa_nil)))) pa_nil)))), ?_⟩
  walk_at "r"
  obtain ⟨rows, e, pr⟩ := hL
  obtain ⟨ws, skW, alW⟩ := hx.sk e
  have lws := alW.len
  have lpr := Paired.length pr
  have hLp := hR.hp
  refine Jv.lcS2 (K := K) (N := []) (j := 2) (i := 0) rfl skW .nil ((neatL l L).map lineT) (by rw [List.length_map]; unfold neatL; rw [List.length_map]; omega) (by omega) (fun i v e1 D1 H6 hi hv he s6 hN1 hD1 PP hP => ?_) (fun D1 ys H6 s6 hD1 eD1 dv1 _ => ?_)
  · obtain ⟨r, hr, dr⟩ := alW.at hv
    obtain ⟨line, hline, hLR⟩ := pairAt pr hr
    have ee : e1 = lineT (line.map (neatI l)) := by
      unfold neatL at he
      rw [List.map_map, List.getElem?_map, hline] at he
      exact (Option.some.inj he).symm
    subst ee
    obtain ⟨es', ers, prl⟩ := hLR
    obtain ⟨us, sku, alu⟩ := (dr.same s6).sk ers
    have lus := alu.len
    have lpl := Paired.length prl
    have hlm := List.mem_of_getElem? hline
    have hlq := hR.hq line hlm
    walk_at "r"
    refine Jv.lcS2 (K := K) (N := [D1]) (j := 3) (i := 2) rfl sku hN1 ((line.map (neatI l)).map fun ns => .tuple (ns.map .int)) (by rw [List.length_map, List.length_map]; omega) (by omega) (fun i2 u e2 D2 H7 hi2 hu he2 s7 hN2 hD2 PP2 hP2 => ?_) (fun D2 ys2 H7 s7 hD2 eD2 dv2 _ => ?_)
    · obtain ⟨e0, he0, du0⟩ := alu.at hu
      obtain ⟨ns, hns, hER⟩ := pairAt prl he0
      have ee2 : e2 = .tuple ((neatI l ns).map .int) := by
        rw [List.map_map, List.getElem?_map, hns] at he2
        exact (Option.some.inj he2).symm
      subst ee2
      obtain ⟨us2, sk2, al2⟩ := (du0.same s7).sk hER
      obtain rfl := Jv.dv_intsV al2
      obtain ⟨_, few60, _⟩ := hR.ends line hlm ns (List.mem_of_getElem? hns)
      walk_at "r"
      refine ⟨_, ns, l, rfl, sk2, ⟨l0, l6⟩, few60, fun t H8 s8 n8 ht => hP2 _ _ s8 (.tup (Jv.sqT_at (Jv.hide_at (hN2.new n8) ht)) (Jv.dv_ints _))⟩
    · walk_at "r"
      refine ⟨D2, _, rfl, .inl ⟨Jv.sqL_at eD2, fun t2 ht2 => ?_⟩⟩
      exact hP _ _ (s7.trans (Jv.same_new ht2)) (Jv.dv_new ht2 (hN1.same s7) dv2)
  · walk_at "r"
    refine ⟨D1, _, rfl, .inl ⟨Jv.sqL_at eD1, fun t2 ht2 => ?_⟩⟩
    rw [Jv.hide_nil] at dv1
    exact k t2 _ (s6.trans (Jv.same_new ht2)) (.tup (Jv.sqT_at upd_same) (dv1.same (Jv.same_new ht2)))
theorem ok_Lraw_wanted (T : Tx) (O : Ok K mg T) : FnOk P w K mg base CX0 4 T.f_Lraw_wanted T.d_Lraw_wanted ["_law_hand_here", "_law_sides", "_law_ladder"] (sp_Lraw_wanted K) := by
  refine O.F_Lraw_wanted.ok sc_Lraw_wanted (fun vs H Q E h => by obtain ⟨_, _, _, _, _, _, rfl, _⟩ := h; rfl) (fun cdv A outer s H vs Q E hr h => ?_)
  obtain ⟨h, l, sa, lad, p, q, rfl, hh, hsa, ⟨l0, l6⟩, ⟨hp, hq⟩, k⟩ := h
  refine ⟨_, (pss_cons (ps_set (i := 3) sc_Lraw_wanted.nd rfl (Or.inl rfl) (pe_lst pa_nil))
  (pss_cons (ps_for PassesOwn.never rfl (pi_range1 (by rfl) O.z_range (pa_cons (pe_ix (r := rIx K) ix_seq (pv 1) pe_int (fun _ _ => rfl)) pa_nil)) (pg_name (i := 4) sc_Lraw_wanted.nd rfl (Or.inl rfl)) (pss_cons (ps_set (i := 5) sc_Lraw_wanted.nd rfl (Or.inl rfl) (pe_lst pa_nil))
  (pss_cons (ps_for PassesOwn.never rfl (pi_range1 (by rfl) O.z_range (pa_cons (pe_ix (r := rIx K) ix_seq (pv 1) pe_int (fun _ _ => rfl)) pa_nil)) (pg_name (i := 6) sc_Lraw_wanted.nd rfl (Or.inl rfl)) (pss_cons (ps_set (i := 7) sc_Lraw_wanted.nd rfl (Or.inl rfl) (pe_call (ok_Lends T O) (hr.mono (by decide)) (by rfl) O.m_Lends O.F_Lends.kp O.b_Lends .nil pass0 (pa_cons (pv 0) (pa_cons (pv 2) pa_nil))))
  (pss_one (ps_expr (show PE _ _ (tBM K _ _ _ _) from pe_bm PySem.F.plainAttrs_list PySem.F.slot_list_append PySem.F.type_list_append mt_append (pv 5) (pa_cons (pe_ifExp (pt_cmpR op_eq (pe_call (ok_Ldraw T O) (hr.mono (by decide)) (by rfl) O.m_Ldraw O.F_Ldraw.kp O.b_Ldraw .nil pass0 (pa_cons (pv 0) (pa_cons pe_int pa_nil))) pe_int (nomark _)) (pe_callTy (r := Jv.rTupOf K) call_tuple_of (by rfl) O.z_tuple (by decide +kernel) (pa_cons (pv 7) pa_nil)) (pv 7)) pa_nil))))))
  (pss_one (ps_expr (show PE _ _ (tBM K _ _ _ _) from pe_bm PySem.F.plainAttrs_list PySem.F.slot_list_append PySem.F.type_list_append mt_append (pv 3) (pa_cons (pe_ifExp (pt_cmpR op_eq (pe_call (ok_Ldraw T O) (hr.mono (by decide)) (by rfl) O.m_Ldraw O.F_Ldraw.kp O.b_Ldraw .nil pass0 (pa_cons (pv 0) (pa_cons pe_int pa_nil))) pe_int (nomark _)) (pe_callTy (r := Jv.rTupOf K) call_tuple_of (by rfl) O.z_tuple (by decide +kernel) (pa_cons (pv 5) pa_nil)) (pv 5)) pa_nil)))))))
  (pss_one (ps_ret (pe_ifExp (pt_cmpR op_eq (pe_call (ok_Ldraw T O) (hr.mono (by decide)) (by rfl) O.m_Ldraw O.F_Ldraw.kp O.b_Ldraw .nil pass0 (pa_cons (pv 0) (pa_cons pe_int pa_nil))) pe_int (nomark _)) (pe_callTy (r := Jv.rTupOf K) call_tuple_of (by rfl) O.z_tuple (by decide +kernel) (pa_cons (pv 3) pa_nil)) (pv 3)))))), ?_⟩
  walk_at "r"
  intro a ha
  obtain ⟨nah, nal⟩ := hh.ne2 ha
  have nsh : sa ≠ h := fun e => by
    obtain ⟨ns, k1, c, t, hA⟩ := hh
    rw [e, hA.hp] at hsa; cases hsa
  have nsa : sa ≠ a := ne_of_none hsa ha
  walk_at "r"
  refine Jv.Sk.ix (xs := [.int p, .int q]) ⟨sa, rfl, .inr (Jv.sqT_at (by rw [upd_ne nsa]; exact hsa))⟩ (v := .int p) rfl ?_
  refine ⟨(p : Int), rfl, by omega, by omega, ?_⟩
  refine for_range (lo := 0) (n := ((p : Int)).toNat) (RawOut K h l sa a lad q H)
    ⟨_, _, _, _, [], [], [], rfl, Jv.Kp.new ha, hh.same (Jv.same_new ha), upd_same, .nil, .nil, ⟨rfl, fun _ hm => (by cases hm), fun _ hm => (by cases hm)⟩⟩ ?_ ?_
  · rintro i σ H1 hi ⟨y4, y5, y6, y7, xs, ds, L, rfl, k1, h1, ea, al, pr, rw1⟩
    walk_at "r"
    intro b hb
    have hbH := k1.free h1 hb
    obtain ⟨nbh, nbl⟩ := hh.ne2 hbH
    have nba : b ≠ a := fun e => by rw [e, ea] at hb; cases hb
    have esa := k1 sa _ nsh hsa
    have nsb : sa ≠ b := ne_of_none esa hb
    walk_at "r"
    refine Jv.Sk.ix (xs := [.int p, .int q]) ⟨sa, rfl, .inr (Jv.sqT_at (by rw [upd_ne nsb]; exact esa))⟩ (v := .int q) rfl ?_
    refine ⟨(q : Int), rfl, by omega, by omega, ?_⟩
    refine for_range (lo := 0) (n := ((q : Int)).toNat) (RawIn K h l sa a b lad i H1)
      ⟨_, _, [], [], [], rfl, Jv.Kp.new hb, h1.same (Jv.same_new hb), upd_same, .nil, .nil, rfl, fun _ hm => (by cases hm)⟩ ?_ ?_
    · rintro j σ H2 hj ⟨y6, y7, us, es, line, rfl, k2, h2, eb, alU, prU, lU, hE⟩
      walk_at "r"
      refine ⟨h, l, lad, rfl, h2, ⟨l0, l6⟩, fun r ns H3 n0 n4 nb hr2 er k3 h3 => ?_⟩
      have eb3 := k3 b _ nbh eb
      walk_at "r"
      refine ⟨h, l, _, rfl, h3, ⟨by decide, Jv.log_small (by decide) (by decide)⟩, fun z H4 z0 z1 k4 h4 => ?_⟩
      walk_at "r"
      have hr1 := k2.free h2 hr2
      obtain ⟨nrh, nrl⟩ := hh.ne2 (k1.free h1 hr1)
      have nra : r ≠ a := fun e => by rw [e, ea] at hr1; cases hr1
      have nrb : r ≠ b := fun e => by rw [e, eb] at hr2; cases hr2
      have er4 := k4 r _ nrh er
      have k24 := k3.trans k4
      have eb4 := k24 b _ nbh eb
      have lus : us.length = j := by rw [alU.len, Paired.length prU, lU]
      have hj6 : j < 6 := by omega
      have fin : ∀ (v : V) (e : PyData) (H5 : Hp), Same H4 H5 → Jv.Dv K (Jv.hide [h, a, b] H5) v e → EndsR e ns → RawIn K h l sa a b lad i H1 (j + 1) [some (.ref h), some (.ref sa), some (.int lad), some (.ref a), some (.int (0 + (i : Int))), some (.ref b), some (V.int (0 + (j : Int))), some (V.ref r)] (upd H5 b (.lst (us ++ [v]))) := fun v e H5 s5 dv eR =>
        ⟨_, _, us ++ [v], es ++ [e], line ++ [ns], rfl, fun c o nc hc => by rw [upd_ne (ne_of_none hc hb)]; exact s5 _ _ (k24 c o nc (k2 c o nc hc)), (h4.same s5).upd nbh nbl, upd_same, by
          rw [Jv.hide_mem (by simp)]
          exact Jv.DvAll.snoc dv ((alU.same (Jv.hide_kp (M := [h, a, b]) List.mem_cons_self (fun _ m => m) k24)).same (Jv.hide_same s5)), pair_snoc prU eR, by rw [List.length_append, lU]; rfl, fun m hm => by
          rcases List.mem_append.mp hm with hm | hm
          · exact hE m hm
          · rw [List.mem_singleton.mp hm]; exact ⟨n0, by omega, nb⟩⟩
      refine Jv.r_decI (fun hz => ?_) (fun hz => ?_)
      · walk_at "r"
        refine ⟨r, _, rfl, .inl ⟨Jv.sqL_at er4, fun t ht => ?_⟩⟩
        have nt : t ∉ [h, a, b] := fun m => by
          obtain ⟨o, ho⟩ := h4.at
          rcases List.mem_cons.mp m with rfl | m
          · rw [ho] at ht; cases ht
          · rcases List.mem_cons.mp m with rfl | m
            · rw [k24 t _ nah (k2 t _ nah ea)] at ht; cases ht
            · rw [List.mem_singleton.mp m, eb4] at ht; cases ht
        walk_at "r"
        refine Jv.r_app (Jv.kp eb4 ht) (by omega) ?_
        exact fin (.ref t) (.tuple (ns.map .int)) _ (Jv.same_new ht) (.tup (Jv.sqT_at (Jv.hide_at nt upd_same)) (Jv.dv_ints _)) rfl
      · walk_at "r"
        refine Jv.r_app eb4 (by omega) ?_
        exact fin (.ref r) (.list (ns.map .int)) _ (Same.refl _) (.lst (Jv.hide_at (by simp [nrh, nra, nrb]) er4) (Jv.dv_ints _)) rfl
    · rintro σ H2 ⟨y6, y7, us, es, line, rfl, k2, h2, eb, alU, prU, lU, hE⟩
      have ea2 := k2 a _ nah ea
      walk_at "r"
      refine ⟨h, l, _, rfl, h2, ⟨by decide, Jv.log_small (by decide) (by decide)⟩, fun z H4 z0 z1 k4 h4 => ?_⟩
      walk_at "r"
      have eb4 := k4 b _ nbh eb
      have ea4 := k4 a _ nah (k2 a _ nah ea)
      have lxs : xs.length = i := by rw [al.len, Paired.length pr, rw1.hp]
      have hi6 : i < 6 := by omega
      have fin : ∀ (v : V) (e : PyData) (H5 : Hp), Same H4 H5 → Jv.Dv K (Jv.hide [h, a] H5) v e → LineR e line → RawOut K h l sa a lad q H (i + 1) [some (.ref h), some (.ref sa), some (.int lad), some (.ref a), some (.int (0 + (i : Int))), some (.ref b), y6, y7] (upd H5 a (.lst (xs ++ [v]))) := fun v e H5 s5 dv eR =>
        ⟨_, _, _, _, xs ++ [v], ds ++ [e], L ++ [line], rfl, fun c o nc hc => by rw [upd_ne (ne_of_none hc ha)]; exact s5 _ _ (k4 c o nc (k2 c o nc (k1 c o nc hc))), (h4.same s5).upd nah nal, upd_same, by
          rw [Jv.hide_mem (by simp)]
          exact Jv.DvAll.snoc dv ((al.same (Jv.hide_kp (M := [h, a]) List.mem_cons_self (fun _ m => m) (k2.trans k4))).same (Jv.hide_same s5)), pair_snoc pr eR, ⟨by rw [List.length_append, rw1.hp]; rfl, fun m hm => by
            rcases List.mem_append.mp hm with hm | hm
            · exact rw1.hq m hm
            · rw [List.mem_singleton.mp hm, lU]; omega, fun m hm => by
            rcases List.mem_append.mp hm with hm | hm
            · exact rw1.ends m hm
            · rw [List.mem_singleton.mp hm]; exact hE⟩⟩
      have alU4 : Jv.DvAll K (Jv.hide [h, a] H4) us es := alU.same (Jv.hide_kp (M := [h, a]) List.mem_cons_self (fun c m => by rcases List.mem_cons.mp m with rfl | m <;> simp_all) k4)
      have hN4 : Jv.Held [h, a] H4 := fun c m => by
        rcases List.mem_cons.mp m with rfl | m
        · exact h4.at
        · rw [List.mem_singleton.mp m]; exact ⟨_, ea4⟩
      refine Jv.r_decI (fun hz => ?_) (fun hz => ?_)
      · walk_at "r"
        refine ⟨b, _, rfl, .inl ⟨Jv.sqL_at eb4, fun t ht => ?_⟩⟩
        walk_at "r"
        refine Jv.r_app (Jv.kp ea4 ht) (by omega) ?_
        exact fin (.ref t) (.tuple es) _ (Jv.same_new ht) (Jv.dv_new ht hN4 alU4) ⟨es, rfl, prU⟩
      · walk_at "r"
        refine Jv.r_app ea4 (by omega) ?_
        exact fin (.ref b) (.list es) _ (Same.refl _) (.lst (Jv.hide_at (by simp [nbh, nba]) eb4) alU4) ⟨es, rfl, prU⟩
  · rintro σ H1 ⟨y4, y5, y6, y7, xs, ds, L, rfl, k1, h1, ea, al, pr, rw1⟩
    walk_at "r"
    refine ⟨h, l, _, rfl, h1, ⟨by decide, Jv.log_small (by decide) (by decide)⟩, fun z H4 z0 z1 k4 h4 => ?_⟩
    walk_at "r"
    have ea4 := k4 a _ nah ea
    have al4 : Jv.DvAll K (Jv.hide [h] H4) xs ds := al.same (Jv.hide_kp (M := [h]) List.mem_cons_self (fun c m => by rw [List.mem_singleton.mp m]; exact List.mem_cons_self) k4)
    have hN4 : Jv.Held [h] H4 := fun c m => by rw [List.mem_singleton.mp m]; exact h4.at
    have rw2 : Rw lad L p q := by
      have : ((p : Int)).toNat = p := rfl
      exact rw1
    refine Jv.r_decI (fun hz => ?_) (fun hz => ?_)
    · walk_at "r"
      refine ⟨a, _, rfl, .inl ⟨Jv.sqL_at ea4, fun t ht => ?_⟩⟩
      exact k _ (.tuple ds) L _ (Jv.dv_new ht hN4 al4) ⟨ds, rfl, pr⟩ rw2 ((k1.trans k4).trans (Jv.Kp.new ht)) (h4.same (Jv.same_new ht))
    · walk_at "r"
      exact k _ (.list ds) L _ (.lst (Jv.hide_at (by simp [nah]) ea4) al4) ⟨ds, rfl, pr⟩ rw2 (k1.trans k4) h4
end
end K04

namespace K04
open PySem PySem.Spec PyProof.Rows L2
/-! ### facts of goals -/
theorem canAll_map {α : Type} {f : α → PyData} (h : ∀ x, (f x).canLay0 = true) : ∀ l : List α, PyData.canLayAll0 (l.map f) = true
  | [] => by simp [PyData.canLayAll0]
  | a :: r => by simp [PyData.canLayAll0, h a, canAll_map h r]
theorem depAll_map {α : Type} {f : α → PyData} {n : Nat} (h : ∀ x, (f x).depth ≤ n) : ∀ l : List α, PyData.depthAll (l.map f) ≤ n
  | [] => by simp [PyData.depthAll]
  | a :: r => by
    have h1 := h a
    have h2 := depAll_map h r
    simp [PyData.depthAll]; omega
theorem can_want (L : List (List (List Int))) : (wantT L).canLay0 = true := by
  unfold wantT
  simp only [PyData.canLay0]
  refine canAll_map (fun line => ?_) L
  unfold lineT
  simp only [PyData.canLay0]
  exact canAll_map (fun ns => by simp only [PyData.canLay0]; exact Jv.canAll_ints ns) line
theorem dep_want (L : List (List (List Int))) : (wantT L).depth ≤ 3 := by
  unfold wantT
  simp only [PyData.depth]
  have : PyData.depthAll (L.map lineT) ≤ 2 := by
    refine depAll_map (fun line => ?_) L
    unfold lineT
    simp only [PyData.depth]
    have : PyData.depthAll (line.map fun ns => PyData.tuple (ns.map .int)) ≤ 1 := depAll_map (fun ns => by simp only [PyData.depth, Jv.depAll_ints]; omega) line
    omega
  omega
theorem shaped_want (L : List (List (List Int))) : SeqAt.shaped (wantT L) = true := by
  have h1 := can_want L
  have h2 := dep_want L
  simp [SeqAt.shaped, h1]; omega
theorem shaped_bb (a b : Bool) : SeqAt.shaped (.tuple [.bool a, .bool b]) = true := by simp [SeqAt.shaped, PyData.canLay0, PyData.canLayAll0, PyData.depth, PyData.depthAll]
theorem shaped_ii (a b : Int) : SeqAt.shaped (.tuple [.int a, .int b]) = true := by simp [SeqAt.shaped, PyData.canLay0, PyData.canLayAll0, PyData.depth, PyData.depthAll]
theorem eqv_want (L : List (List (List Int))) : PyData.eqv (wantT L) (wantT L) = true := SeqAt.eqv_refl _ (can_want L)
theorem eqv_bb (a b : Bool) : PyData.eqv (.tuple [.bool a, .bool b]) (.tuple [.bool a, .bool b]) = true := SeqAt.eqv_refl _ (by simp [PyData.canLay0, PyData.canLayAll0])
theorem eqv_ii (a b : Int) : PyData.eqv (.tuple [.int a, .int b]) (.tuple [.int a, .int b]) = true := SeqAt.eqv_refl _ (by simp [PyData.canLay0, PyData.canLayAll0])
def sp_Lgoal_facts (K : PySem.W.Frag) (C : Addr) : Sp := fun vs H Q _ => ∃ a l L k0 k1, ∃ p q : Nat, ∃ w k, vs = [.ref a, .int l, w, k] ∧ GAt K H C a l (wantT L) k0 k1 p q ∧ Wd l L p q ∧ Jv.Dv K H w (wantT L) ∧ Jv.Dv K H k (.tuple [.bool k0, .bool k1]) ∧ ∀ H', Same H H' → Q (.bl true) H'
section
variable {P : Program} {w : World} {K : PySem.W.Frag} {mg : Str → Option Value} {base : Heap}
theorem ok_Lgoal_facts (T : Tx) (O : Ok K mg T) : FnOk P w K mg base CX0 2 T.f_Lgoal_facts T.d_Lgoal_facts ["_law_goals", "_law_ladder", "_law_wanted", "_law_known"] (sp_Lgoal_facts K T.C_Goals) := by
  refine O.F_Lgoal_facts.ok sc_Lgoal_facts (fun vs H Q E h => by obtain ⟨_, _, _, _, _, _, _, _, _, rfl, _⟩ := h; rfl) (fun cdv A outer s H vs Q E hr h => ?_)
  obtain ⟨a, l, L, k0, k1, p, q, wv, kv, rfl, hg, hw, hW, hK, k⟩ := h
  obtain ⟨dx, wv0, kv0, tv0, hga, hW0, hK0, hS0⟩ := id hg
  obtain ⟨ka, rfl, sqk0⟩ : ∃ ka, kv0 = .ref ka ∧ SqT K H ka [.bl k0, .bl k1] := by
    cases hK0 with
    | tup h qd => exact ⟨_, rfl, by rw [Jv.dv_bools (bs := [k0, k1]) qd] at h; exact h⟩
  obtain ⟨wa, ws, rfl, sqw0, alw0⟩ : ∃ wa ws, wv0 = .ref wa ∧ SqT K H wa ws ∧ Jv.DvAll K H ws (L.map lineT) := by
    cases hW0 with
    | tup h qd => exact ⟨_, _, rfl, h, qd⟩
  obtain ⟨ks, skk, alk⟩ := hK.sk rfl
  obtain rfl := Jv.dv_bools (bs := [k0, k1]) alk
  obtain ⟨us, sku, alu⟩ := hW.sk rfl
  have lus := alu.len
  rw [List.length_map, hw.hp] at lus
  refine ⟨_, (pss_cons (ps_if (PW.pt (pw_or (pt_not (pt_val (pe_call (ok_Lwhole T O) (hr.mono (by decide)) (by rfl) O.m_Lwhole O.F_Lwhole.kp O.b_Lwhole .nil pass0 (pa_cons (show PE _ _ (tFld K _ _) from pe_fld (pv 0) rfl) pa_nil)))) (pw_or (pt_cmpR op_ne (show PE _ _ (tFld K _ _) from pe_fld (pv 0) rfl) (pv 1) (nomark _)) (pw_or1 (pt_cmpR (r := rNeD K) (op_neD hr.units) (show PE _ _ (tFld K _ _) from pe_fld (pv 0) rfl) (pv 3) (nomark _)))))) (pss_one (ps_ret pe_bl)) pss_nil)
  (pss_cons (ps_if (PW.pt (pw_or (pt_not (pt_val (pe_callB (r := rIsi K) call_isi (by rfl) O.z_isinstance (by decide +kernel) (pa_cons (show PE _ _ (tFld K _ _) from pe_fld (pv 0) rfl) (pa_cons (pe_bltn (v := .ty "tuple") (by rfl) O.z_tuple (by decide +kernel) rfl) pa_nil))))) (pw_or (pt_not (pt_val (pe_call (ok_Lis T O) (hr.mono (by decide)) (by rfl) O.m_Lis O.F_Lis.kp O.b_Lis .nil pass0 (pa_cons (pe_ix (r := rIxT K) ix_tup (show PE _ _ (tFld K _ _) from pe_fld (pv 0) rfl) pe_int (fun _ _ => rfl)) (pa_cons (pe_ix (r := rIx K) ix_seq (pv 3) pe_int (fun _ _ => rfl)) pa_nil))))) (pw_or1 (pt_not (pt_val (pe_call (ok_Lis T O) (hr.mono (by decide)) (by rfl) O.m_Lis O.F_Lis.kp O.b_Lis .nil pass0 (pa_cons (pe_ix (r := rIxT K) ix_tup (show PE _ _ (tFld K _ _) from pe_fld (pv 0) rfl) pe_int (fun _ _ => rfl)) (pa_cons (pe_ix (r := rIx K) ix_seq (pv 3) pe_int (fun _ _ => rfl)) pa_nil))))))))) (pss_one (ps_ret pe_bl)) pss_nil)
  (pss_cons (ps_if (pt_cmpR (r := rNeD K) (op_neD hr.units) (show PE _ _ (tFld K _ _) from pe_fld (pv 0) rfl) (pe_tup (pa_cons (pe_callB (r := Jv.rLenK K) Jv.cr_len (by rfl) O.z_len (by decide +kernel) (pa_cons (pv 2) pa_nil)) (pa_cons (pe_callB (r := Jv.rLenK K) Jv.cr_len (by rfl) O.z_len (by decide +kernel) (pa_cons (pe_ix (r := rIx K) ix_seq (pv 2) pe_int (fun _ _ => rfl)) pa_nil)) pa_nil))) (nomark _)) (pss_one (ps_ret pe_bl)) pss_nil)
  (pss_cons (ps_if (PW.pt (pw_or (pt_not (pt_val (pe_callB (r := rIsi K) call_isi (by rfl) O.z_isinstance (by decide +kernel) (pa_cons (show PE _ _ (tFld K _ _) from pe_fld (pv 0) rfl) (pa_cons (pe_bltn (v := .ty "tuple") (by rfl) O.z_tuple (by decide +kernel) rfl) pa_nil))))) (pw_or1 (pt_cmpR (r := rNeD K) (op_neD hr.units) (show PE _ _ (tFld K _ _) from pe_fld (pv 0) rfl) (pv 2) (nomark _))))) (pss_one (ps_ret pe_bl)) pss_nil)
  (pss_cons (ps_for PassesOwn.never rfl (show PI _ _ _ (iTup K _) from pi_tup (show PE _ _ (tFld K _ _) from pe_fld (pv 0) rfl)) (pg_name (i := 4) sc_Lgoal_facts.nd rfl (Or.inl rfl)) (pss_cons (ps_if (PW.pt (pw_or (pt_not (pt_val (pe_callB (r := rIsi K) call_isi (by rfl) O.z_isinstance (by decide +kernel) (pa_cons (pv 4) (pa_cons (pe_bltn (v := .ty "tuple") (by rfl) O.z_tuple (by decide +kernel) rfl) pa_nil))))) (pw_or1 (pt_not (pt_val (pe_callB (r := rAll K) (cr_all rfl) (by rfl) O.z_all (by decide +kernel) (pa_cons (pe_lc (own := [("_law_ends_here", 5)]) (by rfl) sc_Lgoal_facts.nd (Jv.piOr (show PI _ _ _ (iList K _) from pi_list (pv 4)) (show PI _ _ _ (iTup K _) from pi_tup (pv 4))) (blkOk_by (own := [("_law_ends_here", 5)]) (N := ["_law_goals", "_law_ladder", "_law_wanted", "_law_known", "_law_line", "_law_ends_here", "_law_end"]) (sc := defScope s_Lgoal_facts) (scope := ({ kind := .function, names := [(".0", .local), ("_law_ends_here", .local), ("isinstance", .globalImplicit), ("tuple", .globalImplicit)], isGenerator := false, isCoroutine := false } : Scope)) (by decide +kernel)) (fun _ _ _ _ _ => (pg_name (i := 5) sc_Lgoal_facts.nd rfl (Or.inl rfl))) (fun _ _ _ _ _ => pts_nil) (fun _ _ _ _ _ => (pe_callB (r := rIsi K) call_isi (by rfl) O.z_isinstance (by decide +kernel) (pa_cons (pv 5) (pa_cons (pe_bltn (v := .ty "tuple") (by rfl) O.z_tuple (by decide +kernel) rfl) pa_nil))))) pa_nil))))))) (pss_one (ps_ret pe_bl)) pss_nil)
  (pss_one (ps_for PassesOwn.never rfl (Jv.piOr (show PI _ _ _ (iList K _) from pi_list (pv 4)) (show PI _ _ _ (iTup K _) from pi_tup (pv 4))) (pg_name (i := 5) sc_Lgoal_facts.nd rfl (Or.inl rfl)) (pss_one (ps_if (pt_not (pt_val (pe_callB (r := rAll K) (cr_all rfl) (by rfl) O.z_all (by decide +kernel) (pa_cons (pe_lc (own := [("_law_end", 6)]) (by rfl) sc_Lgoal_facts.nd (Jv.piOr (show PI _ _ _ (iList K _) from pi_list (pv 5)) (show PI _ _ _ (iTup K _) from pi_tup (pv 5))) (blkOk_by (own := [("_law_end", 6)]) (N := ["_law_goals", "_law_ladder", "_law_wanted", "_law_known", "_law_line", "_law_ends_here", "_law_end"]) (sc := defScope s_Lgoal_facts) (scope := ({ kind := .function, names := [(".0", .local), ("_law_end", .local), ("_law_whole", .globalImplicit)], isGenerator := false, isCoroutine := false } : Scope)) (by decide +kernel)) (fun _ _ _ _ _ => (pg_name (i := 6) sc_Lgoal_facts.nd rfl (Or.inl rfl))) (fun _ _ _ _ _ => pts_nil) (fun _ _ _ _ _ => (pe_call (ok_Lwhole T O) (hr.mono (by decide)) (by rfl) O.m_Lwhole O.F_Lwhole.kp O.b_Lwhole .nil pass0 (pa_cons (pv 6) pa_nil)))) pa_nil)))) (pss_one (ps_ret pe_bl)) pss_nil))))))
  (pss_one (ps_ret pe_bl))))))), ?_⟩
  walk_at "r"
  refine Jv.r_fld ?_
  walk_at "r"
  refine ⟨a, _, dx, _, _, rfl, hga, O.o_Goals, O.n_Goals_ladder, rfl, ?_⟩
  walk_at "r"
  refine ⟨_, _, rfl, .int l, ?_⟩
  walk_at "r"
  refine Jv.r_fld ?_
  walk_at "r"
  refine ⟨a, _, dx, _, _, rfl, hga, O.o_Goals, O.n_Goals_ladder, rfl, ?_⟩
  walk_at "r"
  rw [decide_eq_true (p := V.int l = V.int l) rfl]
  walk_at "r"
  refine Jv.r_fld ?_
  walk_at "r"
  refine ⟨a, _, dx, _, _, rfl, hga, O.o_Goals, O.n_Goals_knows, rfl, ?_⟩
  walk_at "r"
  refine ⟨_, _, hK0.dp, hK.dp, shaped_bb _ _, shaped_bb _ _, ?_⟩
  rw [eqv_bb]
  walk_at "r"
  refine Jv.r_fld ?_
  walk_at "r"
  refine ⟨a, _, dx, _, _, rfl, hga, O.o_Goals, O.n_Goals_knows, rfl, ?_⟩
  walk_at "r"
  refine Jv.d_isT hK0 ?_
  walk_at "r"
  refine Jv.r_fld ?_
  walk_at "r"
  refine ⟨a, _, dx, _, _, rfl, hga, O.o_Goals, O.n_Goals_knows, rfl, ?_⟩
  walk_at "r"
  refine skk.ix (k := 0) (v := .bl k0) rfl ?_
  walk_at "r"
  refine ⟨k0, k0, rfl, ?_⟩
  rw [decide_eq_true (p := k0 = k0) rfl]
  walk_at "r"
  refine Jv.r_fld ?_
  walk_at "r"
  refine ⟨a, _, dx, _, _, rfl, hga, O.o_Goals, O.n_Goals_knows, rfl, ?_⟩
  walk_at "r"
  refine skk.ix (k := 1) (v := .bl k1) rfl ?_
  walk_at "r"
  refine ⟨k1, k1, rfl, ?_⟩
  rw [decide_eq_true (p := k1 = k1) rfl]
  walk_at "r"
  refine Jv.r_fld ?_
  walk_at "r"
  refine ⟨a, _, dx, _, _, rfl, hga, O.o_Goals, O.n_Goals_sides, rfl, ?_⟩
  walk_at "r"
  refine sku.len ?_
  walk_at "r"
  have hp0 := hw.p0
  have hpL := hw.hp
  have hul : 0 < us.length := by omega
  obtain ⟨dl, c1, c2⟩ := alu.at (i := 0) (List.getElem?_eq_getElem hul)
  rw [List.getElem?_map] at c1
  obtain ⟨line, c3, rfl⟩ := Option.map_eq_some_iff.mp c1
  have hlq := hw.hq line (List.mem_of_getElem? c3)
  obtain ⟨xs, skx, alx⟩ := c2.sk rfl
  have lxs := alx.len
  rw [List.length_map, hlq] at lxs
  refine sku.ix (Jv.at_i (by decide) (List.getElem?_eq_getElem hul)) ?_
  walk_at "r"
  refine skx.len ?_
  walk_at "r"
  intro t ht
  rw [lus, lxs]
  have s1 : Same H (upd H t (.tup [.int p, .int q])) := Jv.same_new ht
  have et : upd H t (.tup [.int p, .int q]) t = some (.tup [.int p, .int q]) := upd_same
  generalize upd H t (.tup [.int p, .int q]) = H1 at s1 et ⊢
  walk_at "r"
  refine ⟨_, _, (hS0.same s1).dp, .tup (Jv.sqT_at et) (.cons (.int _) (.cons (.int _) .nil)), shaped_ii _ _, shaped_ii _ _, ?_⟩
  rw [eqv_ii]
  walk_at "r"
  have hga1 := s1 _ _ hga
  refine Jv.r_fld ?_
  walk_at "r"
  refine ⟨a, _, dx, _, _, rfl, hga1, O.o_Goals, O.n_Goals_wanted, rfl, ?_⟩
  walk_at "r"
  refine Jv.d_isT (hW0.same s1) ?_
  walk_at "r"
  refine Jv.r_fld ?_
  walk_at "r"
  refine ⟨a, _, dx, _, _, rfl, hga1, O.o_Goals, O.n_Goals_wanted, rfl, ?_⟩
  walk_at "r"
  refine ⟨_, _, (hW0.same s1).dp, (hW.same s1).dp, shaped_want _, shaped_want _, ?_⟩
  rw [eqv_want]
  walk_at "r"
  refine Jv.r_fld ?_
  walk_at "r"
  refine ⟨a, _, dx, _, _, rfl, hga1, O.o_Goals, O.n_Goals_wanted, rfl, ?_⟩
  walk_at "r"
  refine ⟨wa, rfl, ⟨_, Jv.Same.sqT s1 sqw0⟩, ?_⟩
  refine for_tup (xs := ws) (fun i σ H2 => ∃ y4 y5, σ = [some (.ref a), some (.int l), some wv, some kv, y4, y5, none] ∧ Same H H2) ⟨_, _, rfl, s1⟩ (fun i σ H2 _ ⟨_, _, _, s2⟩ => Jv.Same.sqT s2 sqw0) ?_ ?_
  · rintro i v σ H2 hv ⟨y4, y5, rfl, s2⟩
    obtain ⟨dl2, g1, g2⟩ := alw0.at hv
    rw [List.getElem?_map] at g1
    obtain ⟨line2, g3, rfl⟩ := Option.map_eq_some_iff.mp g1
    have hlm2 := List.mem_of_getElem? g3
    have hlq2 := hw.hq line2 hlm2
    have hq6 := hw.q6
    obtain ⟨va, vs, rfl, sqv, alv⟩ : ∃ va vs, v = .ref va ∧ SqT K H va vs ∧ Jv.DvAll K H vs (line2.map fun ns => .tuple (ns.map .int)) := by
      cases g2 with
      | tup h qd => exact ⟨_, _, rfl, h, qd⟩
    have lvs := alv.len
    rw [List.length_map] at lvs
    walk_at "r"
    refine Jv.d_isT (g2.same s2) ?_
    walk_at "r"
    have skv2 : Jv.Sk K H2 (.ref va) vs := ⟨va, rfl, .inr (Jv.Same.sqT s2 sqv)⟩
    refine Jv.lcS2 (K := K) (N := []) (j := 5) (i := 4) rfl skv2 .nil ((line2.map fun _ => true).map PyData.bool) (by rw [List.length_map, List.length_map]; omega) (by omega) (fun i2 u e2 D2 H7 hi2 hu he2 s7 hN2 hD2 PP2 hP2 => ?_) (fun D2 ys2 H7 s7 hD2 eD2 dv2 _ => ?_)
    · obtain ⟨dn, n1, n2⟩ := alv.at hu
      rw [List.getElem?_map] at n1
      obtain ⟨ns, n3, rfl⟩ := Option.map_eq_some_iff.mp n1
      rw [List.map_map, List.getElem?_map, n3] at he2
      obtain rfl := Option.some.inj he2
      walk_at "r"
      refine Jv.d_isT (n2.same (s2.trans s7)) ?_
      exact hP2 _ _ (Same.refl _) (.bl true)
    · walk_at "r"
      rw [Jv.hide_nil] at dv2
      rw [Jv.dv_bools dv2] at eD2
      refine ⟨D2, _, rfl, Jv.sqL_at eD2, ?_⟩
      rw [List.all_map]
      have eall : (line2.all ((id : Bool → Bool) ∘ fun _ => true)) = true := List.all_eq_true.mpr fun _ _ => rfl
      rw [eall]
      walk_at "r"
      have s27 := s2.trans s7
      refine .inr ⟨_, rfl, va, rfl, ⟨_, Jv.Same.sqT s27 sqv⟩, ?_⟩
      refine for_tup (xs := vs) (fun i σ H2 => ∃ y5, σ = [some (.ref a), some (.int l), some wv, some kv, some (.ref va), y5, none] ∧ Same H H2) ⟨_, rfl, s27⟩ (fun i σ H2 _ ⟨_, _, s2⟩ => Jv.Same.sqT s2 sqv) ?_ ?_
      · rintro j u σ H8 hu ⟨y5, rfl, s8⟩
        obtain ⟨dn, n1, n2⟩ := alv.at hu
        rw [List.getElem?_map] at n1
        obtain ⟨ns, n3, rfl⟩ := Option.map_eq_some_iff.mp n1
        obtain ⟨zs, skz, alz⟩ := (n2.same s8).sk rfl
        obtain rfl := Jv.dv_intsV alz
        obtain ⟨few60, _⟩ := hw.range hlm2 (List.mem_of_getElem? n3)
        walk_at "r"
        refine Jv.lcS2 (K := K) (N := []) (j := 6) (i := 5) rfl skz .nil ((ns.map fun _ => true).map PyData.bool) (by rw [List.length_map, List.length_map, List.length_map]) (by rw [List.length_map]; omega) (fun i3 z e3 D3 H9 hi3 hz he3 s9 hN3 hD3 PP3 hP3 => ?_) (fun D3 ys3 H9 s9 hD3 eD3 dv3 _ => ?_)
        · obtain ⟨zz, hzz, rfl⟩ := Jv.map_at hz
          rw [List.map_map, List.getElem?_map, hzz] at he3
          obtain rfl := Option.some.inj he3
          walk_at "r"
          refine ⟨_, _, rfl, .int zz, ?_⟩
          exact hP3 _ _ (Same.refl _) (.bl true)
        · walk_at "r"
          rw [Jv.hide_nil] at dv3
          rw [Jv.dv_bools dv3] at eD3
          refine ⟨D3, _, rfl, Jv.sqL_at eD3, ?_⟩
          rw [List.all_map]
          have eall3 : (ns.all ((id : Bool → Bool) ∘ fun _ => true)) = true := List.all_eq_true.mpr fun _ _ => rfl
          rw [eall3]
          walk_at "r"
          exact ⟨_, rfl, s8.trans s9⟩
      · rintro σ H8 ⟨y5, rfl, s8⟩
        exact ⟨_, _, rfl, s8⟩
  · rintro σ H2 ⟨y4, y5, rfl, s2⟩
    walk_at "r"
    exact k _ s2
end
end K04

namespace Jv
open PySem PySem.Spec PyProof.Rows L2
/-! ### a clause of another class; static methods that may raise within a try -/
theorem exm_no {K : PySem.W.Frag} {C D : Addr} (b : PySem.W.subIn K (.ref D) (.type "BaseException") = some true) (i : PySem.W.isClsIn K D = true) (t : PySem.W.typeIn K (.ref D) = some (.type "type")) (s : PySem.W.subIn K (.ref C) (.ref D) = some false) :
    PySem.W.exmOne K (.ref C) (.ref D) = some false := by
  have i' : (PySem.W.clsIn K D).isSome = true := i
  unfold PySem.W.exmOne PySem.W.kitCls
  simp [b, i', t, s]
theorem ExcP.no {K : PySem.W.Frag} {C D : Addr} (h : ExcP K D) (s : PySem.W.subIn K (.ref C) (.ref D) = some false) : PySem.W.exmOne K (.ref C) (.ref D) = some false := exm_no h.b h.i h.t s
section
variable {X : Cx} {CX : CXT} {k : Nat} {g p C : Addr} {mc : Value} {fd : FuncData} {ps : List Str} {sp : Sp} {dvs : List V} {ds : List Value} {E : L2.St → XK} {m : Str} {pos apos : Pos} {e o : Expr} {es : List Expr} {ta : TE} {t : TA}
def tSMethX (C : Addr) (sp : Sp) (dvs : List V) (E : L2.St → XK) (ta : TE) (t : TA) : TE := fun σ H Q => ta σ H fun x H1 => x = .ref C ∧ t σ H1 fun vs H2 => sp (vs ++ dvs) H2 Q (E σ)
theorem pe_smethX {pl : Sem Bool} (he : PE X o ta) (c : SMet X.K C mc m p g) (F : FnOk X.prog X.w X.K X.mg X.base CX k g fd ps sp) (hr : Room k X.A) (hb : Binds X.K fd ps ds) (hd : Vals dvs ds) (hx : ∀ σ, PassesAt CX X σ (E σ)) (ha : PA X (e :: es) t)
    (hst : starEach (e :: es) X.env = (false, eval e X.env) :: starEach es X.env := by rfl) (hpl : (backTo pos (starEach es X.env)).any (·.1) = false := by rfl)
    (ht : eval (.Call (.Attribute o m apos) (e :: es) [] pos) X.env = (do
      let ov ← eval o X.env
      standAt apos.atName
      let (f, first) ← holding [ov] (getMethod ov m pl)
      callWith pos f first (backTo pos (starEach (e :: es) X.env)) (backToKw pos (keywordEach [] X.env))) := by rfl) :
    PE X (.Call (.Attribute o m apos) (e :: es) [] pos) (tSMethX C sp dvs E ta t) := by
  refine ⟨fun pins s σ H Q I h => ?_⟩
  refine PySem.W.methodCall_KW (pl := pl) (thn (he.run pins s σ H _ I h) fun u s1 ⟨x, H1, I1, rx, ex, q⟩ => ?_) ht
  subst ex
  obtain rfl : u = Value.ref C := rx
  refine getsm_ok I1 c fun s2 I2 => ?_
  refine PySem.W.callWith_K (first := []) (h₀ := X.base) I.ok.mod.kin c.kp (thn (ha.run pos pins s2 σ H1 _ I2 q) fun us s3 ⟨vs, H2, I3, rv, q2⟩ => ⟨I3.kIn, ?_⟩) hst hpl
  exact run_fnX F hr hb hd (hx σ) I3 rv q2
theorem r_methX {σ : L2.St} {H : Hp} {Q : VK} (h : ta σ H fun x H1 => ∃ a dx fs, x = .ref a ∧ H1 a = some (.ins C dx fs) ∧ fs.lookup m = none ∧ t σ H1 fun vs H2 => sp (x :: (vs ++ dvs)) H2 Q (E σ)) : tMethX C m sp dvs E ta t σ H Q := h
theorem r_smethX {σ : L2.St} {H : Hp} {Q : VK} (h : ta σ H fun x H1 => x = .ref C ∧ t σ H1 fun vs H2 => sp (vs ++ dvs) H2 Q (E σ)) : tSMethX C sp dvs E ta t σ H Q := h
theorem pe_methX0 {f : Addr} {pl : Sem Bool} (he : PE X o ta) (c : Cls X.K C) (hm : Meth X.K C m f) (F : FnOk X.prog X.w X.K X.mg X.base CX k f fd ps sp) (hr : Room k X.A) (hb : Binds X.K fd ps ds) (hd : Vals dvs ds) (hx : ∀ σ, PassesAt CX X σ (E σ))
    (ht : eval (.Call (.Attribute o m apos) [] [] pos) X.env = (do
      let ov ← eval o X.env
      standAt apos.atName
      let (f, first) ← holding [ov] (getMethod ov m pl)
      callWith pos f first (backTo pos (starEach [] X.env)) (backToKw pos (keywordEach [] X.env))) := by rfl) :
    PE X (.Call (.Attribute o m apos) [] [] pos) (tMethX C m sp dvs E ta tNil) := by
  refine ⟨fun pins s σ H Q I h => ?_⟩
  refine PySem.W.methodCall_KW (pl := pl) (thn (he.run pins s σ H _ I h) fun u s1 ⟨x, H1, I1, rx, a, dx, fs, ex, ea, l, q⟩ => ?_) ht
  subst ex
  obtain rfl : u = Value.ref a := rx
  refine getmeth_ok I1 ea c hm l ?_
  exact PySem.W.callWith_K0 (first := [.ref a]) I1.kIn hm.kp (run_fnX (us := [.ref a]) (vs := [.ref a]) F hr hb hd (hx σ) I1 (.cons rfl .nil) q)
end
end Jv
namespace K04
open PySem PySem.Spec PyProof.Rows L2
/-! ### what is told of a refusal -/
def Says (Q : VK) (H : Hp) (vs : List V) : Prop := ∀ r H', Same H H' → H' r = some (.lst vs) → Q (.ref r) H'
def sp_Lkept (K : PySem.W.Frag) (C : Addr) : Sp := fun vs H Q _ => ∃ a x y l L k0 k1, ∃ p q : Nat, ∃ d1 d2, vs = [.ref a, x, y] ∧ GAt K H C a l (wantT L) k0 k1 p q ∧ Wd l L p q ∧ Jv.Dv K H x d1 ∧ few60 d1 ∧ Jv.Dv K H y d2 ∧ few60 d2 ∧
  ((∃ n1 n2, Jv.seqD d1 = some (n1.map .int) ∧ Jv.lotP p n1 ∧ Jv.seqD d2 = some (n2.map .int) ∧ Jv.lotP q n2 ∧ ∀ r H', Same H H' → GAt K H' C r l (wantT (cutL L n1 n2)) k0 k1 n1.length n2.length → Q (.ref r) H') ∨
   (lotD p d1 = false ∧ Says Q H [.str "lot", .int 0]) ∨
   (∃ n1, Jv.seqD d1 = some (n1.map .int) ∧ Jv.lotP p n1 ∧ lotD q d2 = false ∧ Says Q H [.str "lot", .int 1]))
def sp_Lrenumbered (K : PySem.W.Frag) (C : Addr) : Sp := fun vs H Q _ => ∃ a sv x l L k0 k1, ∃ p q : Nat, ∃ ds d, vs = [.ref a, sv, x] ∧ GAt K H C a l (wantT L) k0 k1 p q ∧ Wd l L p q ∧ Jv.Dv K H sv ds ∧ Jv.Dv K H x d ∧ few60 d ∧
  ((∃ n1, ds = .int 0 ∧ Jv.seqD d = some (n1.map .int) ∧ Jv.orderP p n1 ∧ ∀ r H', Same H H' → GAt K H' C r l (wantT (rowL L n1)) k0 k1 p q → Q (.ref r) H') ∨
   (∃ n1, ds = .int 1 ∧ Jv.seqD d = some (n1.map .int) ∧ Jv.orderP q n1 ∧ ∀ r H', Same H H' → GAt K H' C r l (wantT (colL L n1)) k0 k1 p q → Q (.ref r) H') ∨
   (Jv.wholeD ds (.int 0) (.int 1) = false ∧ Says Q H [.str "side"]) ∨
   (ds = .int 0 ∧ orderD p d = false ∧ Says Q H [.str "lot", .int 0]) ∨
   (ds = .int 1 ∧ orderD q d = false ∧ Says Q H [.str "lot", .int 1]))
def sp_Lraised (K : PySem.W.Frag) (C : Addr) : Sp := fun vs H Q _ => ∃ a x l L k0 k1, ∃ p q : Nat, ∃ d, vs = [.ref a, x] ∧ GAt K H C a l (wantT L) k0 k1 p q ∧ Wd l L p q ∧ Jv.Dv K H x d ∧
  ((∃ b, d = .int b ∧ 0 ≤ b ∧ l + b ≤ 6 ∧ ∀ r H', Same H H' → GAt K H' C r (l + b) (wantT (raiseL b L)) k0 k1 p q → Q (.ref r) H') ∨
   (Jv.wholeD d (.int 0) (.int (6 - l)) = false ∧ Says Q H [.str "goals", .str "ladder"]))
def sp_Lwithout (K : PySem.W.Frag) (C : Addr) : Sp := fun vs H Q _ => ∃ a l L k0 k1, ∃ p q : Nat, vs = [.ref a] ∧ GAt K H C a l (wantT L) k0 k1 p q ∧ Wd l L p q ∧
  ((plainOk L = true ∧ ∀ r H', Same H H' → GAt K H' C r l (wantT (plainL L)) k0 k1 p q → Q (.ref r) H') ∨
   (plainOk L = false ∧ Says Q H [.str "goals", .str "wanted"]))
def sp_Lended (K : PySem.W.Frag) (C : Addr) : Sp := fun vs H Q _ => ∃ a x y l L k0 k1, ∃ p q : Nat, ∃ d1 d2, vs = [.ref a, x, y] ∧ GAt K H C a l (wantT L) k0 k1 p q ∧ Wd l L p q ∧ Jv.Dv K H x d1 ∧ Jv.Dv K H y d2 ∧
  ((∃ e f z, Jv.seqD d1 = some [.int e, .int f] ∧ (0 ≤ e ∧ e < p) ∧ (0 ≤ f ∧ f < q) ∧ d2 = .int z ∧ (-l ≤ z ∧ z ≤ l) ∧ ∀ r H', Same H H' → GAt K H' C r l (wantT (putL L e f (neatI l (cell L e f ++ [z])))) k0 k1 p q → Q (.ref r) H') ∨
   (coupleD p q d1 = false ∧ Says Q H [.str "couple"]) ∨
   (∃ e f, Jv.seqD d1 = some [.int e, .int f] ∧ (0 ≤ e ∧ e < p) ∧ (0 ≤ f ∧ f < q) ∧ Jv.wholeD d2 (.int (-l)) (.int l) = false ∧ Says Q H [.str "end"]))
def sp_Lall (K : PySem.W.Frag) (C : Addr) : Sp := fun vs H Q _ => ∃ x y z d1 d2 d3, vs = [x, y, z] ∧ Jv.Dv K H x d1 ∧ Jv.Dv K H y d2 ∧ Jv.Dv K H z d3 ∧
  ((∃ l k0 k1, ∃ p q : Nat, d2 = .int l ∧ (0 ≤ l ∧ l ≤ 6) ∧ Jv.seqD d1 = some [.int p, .int q] ∧ (1 ≤ p ∧ p ≤ 6) ∧ (1 ≤ q ∧ q ≤ 6) ∧ p * q ≤ 12 ∧ Jv.seqD d3 = some [.bool k0, .bool k1] ∧ ∀ r H', Same H H' → GAt K H' C r l (wantT (fullL l p q)) k0 k1 p q → Q (.ref r) H') ∨
   (Jv.wholeD d2 (.int 0) (.int 6) = false ∧ Says Q H [.str "goals", .str "ladder"]) ∨
   (Jv.wholeD d2 (.int 0) (.int 6) = true ∧ Jv.sidesD d1 = false ∧ Says Q H [.str "goals", .str "sides"]) ∨
   (∃ l, ∃ p q : Nat, d2 = .int l ∧ (0 ≤ l ∧ l ≤ 6) ∧ Jv.seqD d1 = some [.int p, .int q] ∧ (1 ≤ p ∧ p ≤ 6) ∧ (1 ≤ q ∧ q ≤ 6) ∧ p * q ≤ 12 ∧ Jv.knowsD d3 = false ∧ Says Q H [.str "goals", .str "knows"]))
section
variable {P : Program} {w : World} {K : PySem.W.Frag} {mg : Str → Option Value} {base : Heap}
theorem ok_Lkept (T : Tx) (O : Ok K mg T) : FnOk P w K mg base CX0 6 T.f_Lkept T.d_Lkept ["_law_goals", "_law_east_lot", "_law_west_lot"] (sp_Lkept K T.C_Goals) := by
  refine O.F_Lkept.ok sc_Lkept (fun vs H Q E h => by obtain ⟨_, _, _, _, _, _, _, _, _, _, _, rfl, _⟩ := h; rfl) (fun cdv A outer s H vs Q E hr h => ?_)
  obtain ⟨a, x, y, l, L, k0, k1, p, q, d1, d2, rfl, hg, hw, hx, f1, hy, f2, qq⟩ := h
  refine ⟨_, (pss_one (ps_try_as (i := 3) rfl rfl sc_Lkept.nd rfl rfl ⟨rfl, by decide, .inl O.m_BadLot⟩ takes0 (fun W pn xe tk _ => (pss_one (ps_ret (Jv.pe_methX (pv 0) O.o_Goals O.h_Goals_kept (ok_Goals_kept T O) (hr.mono (by decide)) O.b_Goals_kept .nil (fun σ => passAt tk σ) (pa_cons (pv 1) (pa_cons (pv 2) pa_nil)))))) (fun a oe cls d pn hz hf => (pss_one (ps_ret (pe_lst (pa_cons pe_str (pa_cons (pe_xf O.x_BadLot.f O.n_BadLot_side hz hf (pv 3)) pa_nil)))))))), ?_⟩
  have hga := hg
  obtain ⟨dx, wv, kv, tv, hga, _⟩ := hga
  walk_at "r"
  refine Jv.r_methX ?_
  walk_at "r"
  refine ⟨a, dx, _, rfl, hga, rfl, ?_⟩
  walk_at "r"
  refine ⟨a, x, y, l, L, k0, k1, p, q, d1, d2, rfl, hg, hw, hx, f1, hy, f2, ?_⟩
  rcases qq with ⟨n1, n2, e1, h1, e2, h2, k⟩ | ⟨hf, k⟩ | ⟨n1, e1, h1, hf, k⟩
  · exact .inl ⟨n1, n2, e1, h1, e2, h2, k⟩
  · refine .inr (.inl ⟨hf, fun e H1 s1 hd => ?_⟩)
    refine ⟨true, O.x_BadLot.e, fun _ a ha => ?_, fun z => nomatch z⟩
    walk_at "r"
    refine ⟨_, rfl, rfl, rfl, e, _, _, rfl, hd, rfl, ?_⟩
    walk_at "r"
    exact fun r hr => k r _ (s1.trans (Jv.same_new hr)) upd_same
  · refine .inr (.inr ⟨n1, e1, h1, hf, fun e H1 s1 hd => ?_⟩)
    refine ⟨true, O.x_BadLot.e, fun _ a ha => ?_, fun z => nomatch z⟩
    walk_at "r"
    refine ⟨_, rfl, rfl, rfl, e, _, _, rfl, hd, rfl, ?_⟩
    walk_at "r"
    exact fun r hr => k r _ (s1.trans (Jv.same_new hr)) upd_same
theorem ok_Lrenumbered (T : Tx) (O : Ok K mg T) : FnOk P w K mg base CX0 6 T.f_Lrenumbered T.d_Lrenumbered ["_law_goals", "_law_side", "_law_order_here"] (sp_Lrenumbered K T.C_Goals) := by
  refine O.F_Lrenumbered.ok sc_Lrenumbered (fun vs H Q E h => by obtain ⟨_, _, _, _, _, _, _, _, _, _, _, rfl, _⟩ := h; rfl) (fun cdv A outer s H vs Q E hr h => ?_)
  obtain ⟨a, sv, x, l, L, k0, k1, p, q, ds, d, rfl, hg, hw, hs, hx, f1, qq⟩ := h
  refine ⟨_, (pss_one (Jv.ps_tryMix rfl rfl takes0 (Jv.Cls2.bare ⟨rfl, by decide, .inl O.m_BadSide⟩ (fun a oe cls d pn _ _ => (pss_one (ps_ret (pe_lst (pa_cons pe_str pa_nil))))) (Jv.Cls2.named (i := 3) sc_Lrenumbered.nd rfl rfl ⟨rfl, by decide, .inl O.m_BadLot⟩ (fun a oe cls d pn hz hf => (pss_one (ps_ret (pe_lst (pa_cons pe_str (pa_cons (pe_xf O.x_BadLot.f O.n_BadLot_side hz hf (pv 3)) pa_nil)))))) Jv.Cls2.nil)) (fun W pn xe tk _ => (pss_one (ps_ret (Jv.pe_methX (pv 0) O.o_Goals O.h_Goals_renumbered (ok_Goals_renumbered T O) (hr.mono (by decide)) O.b_Goals_renumbered .nil (fun σ => passAt tk σ) (pa_cons (pv 1) (pa_cons (pv 2) pa_nil)))))))), ?_⟩
  obtain ⟨dx, wv, kv, tv, hga, _⟩ := id hg
  walk_at "r"
  refine Jv.r_methX ?_
  walk_at "r"
  refine ⟨a, dx, _, rfl, hga, rfl, ?_⟩
  walk_at "r"
  refine ⟨a, sv, x, l, L, k0, k1, p, q, ds, d, rfl, hg, hw, hs, hx, f1, ?_⟩
  rcases qq with ⟨n1, e0, e1, h1, k⟩ | ⟨n1, e0, e1, h1, k⟩ | ⟨hf, k⟩ | ⟨e0, hf, k⟩ | ⟨e0, hf, k⟩
  · exact .inl ⟨n1, e0, e1, h1, k⟩
  · exact .inr (.inl ⟨n1, e0, e1, h1, k⟩)
  · refine .inr (.inr (.inl ⟨hf, fun H1 s1 => ?_⟩))
    refine ⟨true, O.e_BadSide.e, fun _ a ha => ?_, fun z => nomatch z⟩
    walk_at "r"
    exact fun r hr => k r _ (s1.trans (Jv.same_new hr)) upd_same
  · refine .inr (.inr (.inr (.inl ⟨e0, hf, fun e H1 s1 hd => ?_⟩)))
    refine ⟨false, O.e_BadSide.no O.u_BadLot_BadSide, fun z => (nomatch z), fun _ => ?_⟩
    refine ⟨true, O.x_BadLot.e, fun _ a ha => ?_, fun z => nomatch z⟩
    show _
    walk_at "r"
    refine ⟨_, rfl, rfl, rfl, e, _, _, rfl, hd, rfl, ?_⟩
    walk_at "r"
    exact fun r hr => k r _ (s1.trans (Jv.same_new hr)) upd_same
  · refine .inr (.inr (.inr (.inr ⟨e0, hf, fun e H1 s1 hd => ?_⟩)))
    refine ⟨false, O.e_BadSide.no O.u_BadLot_BadSide, fun z => (nomatch z), fun _ => ?_⟩
    refine ⟨true, O.x_BadLot.e, fun _ a ha => ?_, fun z => nomatch z⟩
    walk_at "r"
    refine ⟨_, rfl, rfl, rfl, e, _, _, rfl, hd, rfl, ?_⟩
    walk_at "r"
    exact fun r hr => k r _ (s1.trans (Jv.same_new hr)) upd_same
theorem ok_Lraised (T : Tx) (O : Ok K mg T) : FnOk P w K mg base CX0 6 T.f_Lraised T.d_Lraised ["_law_goals", "_law_by"] (sp_Lraised K T.C_Goals) := by
  refine O.F_Lraised.ok sc_Lraised (fun vs H Q E h => by obtain ⟨_, _, _, _, _, _, _, _, _, rfl, _⟩ := h; rfl) (fun cdv A outer s H vs Q E hr h => ?_)
  obtain ⟨a, x, l, L, k0, k1, p, q, d, rfl, hg, hw, hx, qq⟩ := h
  refine ⟨_, (pss_one (ps_try_as (i := 2) rfl rfl sc_Lraised.nd rfl rfl ⟨rfl, by decide, .inl O.m_BadGoals⟩ takes0 (fun W pn xe tk _ => (pss_one (ps_ret (Jv.pe_methX (pv 0) O.o_Goals O.h_Goals_raised (ok_Goals_raised T O) (hr.mono (by decide)) O.b_Goals_raised .nil (fun σ => passAt tk σ) (pa_cons (pv 1) pa_nil))))) (fun a oe cls d pn hz hf => (pss_one (ps_ret (pe_lst (pa_cons pe_str (pa_cons (pe_xf O.x_BadGoals.f O.n_BadGoals_what hz hf (pv 2)) pa_nil)))))))), ?_⟩
  obtain ⟨dx, wv, kv, tv, hga, _⟩ := id hg
  walk_at "r"
  refine Jv.r_methX ?_
  walk_at "r"
  refine ⟨a, dx, _, rfl, hga, rfl, ?_⟩
  walk_at "r"
  refine ⟨a, x, l, L, k0, k1, p, q, d, rfl, hg, hw, hx, ?_⟩
  rcases qq with h | ⟨hf, k⟩
  · exact .inl h
  · refine .inr ⟨hf, fun e H1 s1 hd => ?_⟩
    refine ⟨true, O.x_BadGoals.e, fun _ a ha => ?_, fun z => nomatch z⟩
    walk_at "r"
    refine ⟨_, rfl, rfl, rfl, e, _, _, rfl, hd, rfl, ?_⟩
    walk_at "r"
    exact fun r hr => k r _ (s1.trans (Jv.same_new hr)) upd_same
theorem ok_Lwithout (T : Tx) (O : Ok K mg T) : FnOk P w K mg base CX0 6 T.f_Lwithout T.d_Lwithout ["_law_goals"] (sp_Lwithout K T.C_Goals) := by
  refine O.F_Lwithout.ok sc_Lwithout (fun vs H Q E h => by obtain ⟨_, _, _, _, _, _, _, rfl, _⟩ := h; rfl) (fun cdv A outer s H vs Q E hr h => ?_)
  obtain ⟨a, l, L, k0, k1, p, q, rfl, hg, hw, qq⟩ := h
  refine ⟨_, (pss_one (ps_try_as (i := 1) rfl rfl sc_Lwithout.nd rfl rfl ⟨rfl, by decide, .inl O.m_BadGoals⟩ takes0 (fun W pn xe tk _ => (pss_one (ps_ret (Jv.pe_methX0 (pv 0) O.o_Goals O.h_Goals_without_foes (ok_Goals_without_foes T O) (hr.mono (by decide)) O.b_Goals_without_foes .nil (fun σ => passAt tk σ))))) (fun a oe cls d pn hz hf => (pss_one (ps_ret (pe_lst (pa_cons pe_str (pa_cons (pe_xf O.x_BadGoals.f O.n_BadGoals_what hz hf (pv 1)) pa_nil)))))))), ?_⟩
  obtain ⟨dx, wv, kv, tv, hga, _⟩ := id hg
  walk_at "r"
  refine Jv.r_methX ?_
  walk_at "r"
  refine ⟨a, dx, _, rfl, hga, rfl, ?_⟩
  walk_at "r"
  refine ⟨a, l, L, k0, k1, p, q, rfl, hg, hw, ?_⟩
  rcases qq with h | ⟨hf, k⟩
  · exact .inl h
  · refine .inr ⟨hf, fun e H1 s1 hd => ?_⟩
    refine ⟨true, O.x_BadGoals.e, fun _ a ha => ?_, fun z => nomatch z⟩
    walk_at "r"
    refine ⟨_, rfl, rfl, rfl, e, _, _, rfl, hd, rfl, ?_⟩
    walk_at "r"
    exact fun r hr => k r _ (s1.trans (Jv.same_new hr)) upd_same
theorem ok_Lended (T : Tx) (O : Ok K mg T) : FnOk P w K mg base CX0 6 T.f_Lended T.d_Lended ["_law_goals", "_law_couple", "_law_end"] (sp_Lended K T.C_Goals) := by
  refine O.F_Lended.ok sc_Lended (fun vs H Q E h => by obtain ⟨_, _, _, _, _, _, _, _, _, _, _, rfl, _⟩ := h; rfl) (fun cdv A outer s H vs Q E hr h => ?_)
  obtain ⟨a, x, y, l, L, k0, k1, p, q, d1, d2, rfl, hg, hw, hx, hy, qq⟩ := h
  refine ⟨_, (pss_one (Jv.ps_tryMix rfl rfl takes0 (Jv.Cls2.bare ⟨rfl, by decide, .inl O.m_BadCouple⟩ (fun a oe cls d pn _ _ => (pss_one (ps_ret (pe_lst (pa_cons pe_str pa_nil))))) (Jv.Cls2.bare ⟨rfl, by decide, .inl O.m_BadEnd⟩ (fun a oe cls d pn _ _ => (pss_one (ps_ret (pe_lst (pa_cons pe_str pa_nil))))) Jv.Cls2.nil)) (fun W pn xe tk _ => (pss_one (ps_ret (Jv.pe_methX (pv 0) O.o_Goals O.h_Goals_with_end (ok_Goals_with_end T O) (hr.mono (by decide)) O.b_Goals_with_end .nil (fun σ => passAt tk σ) (pa_cons (pv 1) (pa_cons (pv 2) pa_nil)))))))), ?_⟩
  obtain ⟨dx, wv, kv, tv, hga, _⟩ := id hg
  walk_at "r"
  refine Jv.r_methX ?_
  walk_at "r"
  refine ⟨a, dx, _, rfl, hga, rfl, ?_⟩
  walk_at "r"
  refine ⟨a, x, y, l, L, k0, k1, p, q, d1, d2, rfl, hg, hw, hx, hy, ?_⟩
  rcases qq with h | ⟨hf, k⟩ | ⟨e, f, h1, h2, h3, h4, k⟩
  · exact .inl h
  · refine .inr (.inl ⟨hf, fun H1 s1 => ?_⟩)
    refine ⟨true, O.e_BadCouple.e, fun _ a ha => ?_, fun z => nomatch z⟩
    walk_at "r"
    exact fun r hr => k r _ (s1.trans (Jv.same_new hr)) upd_same
  · refine .inr (.inr ⟨e, f, h1, h2, h3, h4, fun H1 s1 => ?_⟩)
    refine ⟨false, O.e_BadCouple.no O.u_BadEnd_BadCouple, fun z => (nomatch z), fun _ => ?_⟩
    refine ⟨true, O.e_BadEnd.e, fun _ a ha => ?_, fun z => nomatch z⟩
    walk_at "r"
    exact fun r hr => k r _ (s1.trans (Jv.same_new hr)) upd_same
theorem ok_Lall (T : Tx) (O : Ok K mg T) : FnOk P w K mg base CX0 6 T.f_Lall T.d_Lall ["_law_sides", "_law_ladder", "_law_knows"] (sp_Lall K T.C_Goals) := by
  refine O.F_Lall.ok sc_Lall (fun vs H Q E h => by obtain ⟨_, _, _, _, _, _, rfl, _⟩ := h; rfl) (fun cdv A outer s H vs Q E hr h => ?_)
  obtain ⟨x, y, z, d1, d2, d3, rfl, hx, hy, hz, qq⟩ := h
  refine ⟨_, (pss_one (ps_try_as (i := 3) rfl rfl sc_Lall.nd rfl rfl ⟨rfl, by decide, .inl O.m_BadGoals⟩ takes0 (fun W pn xe tk _ => (pss_one (ps_ret (Jv.pe_smethX (pe_glob (v := .ref _) (by rfl) O.m_Goals rfl) O.s_Goals_all_wanted (ok_Goals_all_wanted T O) (hr.mono (by decide)) O.b_Goals_all_wanted .nil (fun σ => passAt tk σ) (pa_cons (pv 0) (pa_cons (pv 1) (pa_cons (pv 2) pa_nil))))))) (fun a oe cls d pn hz hf => (pss_one (ps_ret (pe_lst (pa_cons pe_str (pa_cons (pe_xf O.x_BadGoals.f O.n_BadGoals_what hz hf (pv 3)) pa_nil)))))))), ?_⟩
  walk_at "r"
  refine Jv.r_smethX ?_
  walk_at "r"
  refine ⟨x, y, z, d1, d2, d3, rfl, hx, hy, hz, ?_⟩
  rcases qq with h | ⟨hf, k⟩ | ⟨h1, hf, k⟩ | ⟨l, p, q, h1, h2, h3, h4, h5, h6, hf, k⟩
  · exact .inl h
  · refine .inr (.inl ⟨hf, fun e H1 s1 hd => ?_⟩)
    refine ⟨true, O.x_BadGoals.e, fun _ a ha => ?_, fun z => nomatch z⟩
    walk_at "r"
    refine ⟨_, rfl, rfl, rfl, e, _, _, rfl, hd, rfl, ?_⟩
    walk_at "r"
    exact fun r hr => k r _ (s1.trans (Jv.same_new hr)) upd_same
  · refine .inr (.inr (.inl ⟨h1, hf, fun e H1 s1 hd => ?_⟩))
    refine ⟨true, O.x_BadGoals.e, fun _ a ha => ?_, fun z => nomatch z⟩
    walk_at "r"
    refine ⟨_, rfl, rfl, rfl, e, _, _, rfl, hd, rfl, ?_⟩
    walk_at "r"
    exact fun r hr => k r _ (s1.trans (Jv.same_new hr)) upd_same
  · refine .inr (.inr (.inr ⟨l, p, q, h1, h2, h3, h4, h5, h6, hf, fun e H1 s1 hd => ?_⟩))
    refine ⟨true, O.x_BadGoals.e, fun _ a ha => ?_, fun z => nomatch z⟩
    walk_at "r"
    refine ⟨_, rfl, rfl, rfl, e, _, _, rfl, hd, rfl, ?_⟩
    walk_at "r"
    exact fun r hr => k r _ (s1.trans (Jv.same_new hr)) upd_same
end
end K04

namespace K04
open PySem PySem.Spec PyProof.Rows L2
/-! ### drawn lots -/
def sp_Llot : Sp := fun vs H Q _ => ∃ h l m, vs = [.ref h, .int m] ∧ Jv.Hand H h l ∧ (1 ≤ m ∧ m ≤ 40) ∧ ∀ (r : Addr) (ns : List Int) (H' : Hp), Jv.lotP m ns → H r = none → H' r = some (.lst (ns.map V.int)) → Jv.Kp h H H' → Jv.Hand H' h l → Q (.ref r) H'
section
variable {P : Program} {w : World} {K : PySem.W.Frag} {mg : Str → Option Value} {base : Heap}
theorem ok_Llot (T : Tx) (O : Ok K mg T) : FnOk P w K mg base CX0 3 T.f_Llot T.d_Llot ["_law_hand_here", "_law_many"] sp_Llot := by
  refine O.F_Llot.ok sc_Llot (fun vs H Q E h => by obtain ⟨_, _, _, rfl, _⟩ := h; rfl) (fun cdv A outer s H vs Q E hr h => ?_)
  obtain ⟨h, l, m, rfl, hh, ⟨m0, m1⟩, k⟩ := h
  refine ⟨_, (pss_cons (ps_setLc (i := 2) (own := [("_law_kind", 3), ("_law_bit", 4)]) (by rfl) sc_Llot.nd rfl rfl (sw_true rfl rfl rfl (by decide +kernel)) (show PI _ _ _ (iEnum K _) from pi_enum (by rfl) O.z_enumerate (pa_cons (pe_lc (own := [("_law_turn", 5)]) (by rfl) sc_Llot.nd (pi_range1 (by rfl) O.z_range (pa_cons (pv 1) pa_nil)) (blkOk_by (own := [("_law_turn", 5)]) (N := ["_law_hand_here", "_law_many", "_law_lot_here", "_law_kind", "_law_bit", "_law_turn"]) (sc := defScope s_Llot) (scope := ({ kind := .function, names := [(".0", .local), ("_law_turn", .local), ("_law_draw", .globalImplicit), ("_law_hand_here", .free)], isGenerator := false, isCoroutine := false } : Scope)) (by decide +kernel)) (fun _ _ _ _ _ => (pg_name (i := 5) sc_Llot.nd rfl (Or.inl rfl))) (fun _ _ _ _ _ => pts_nil) (fun _ _ _ _ _ => (pe_call (ok_Ldraw T O) (hr.mono (by decide)) (by rfl) O.m_Ldraw O.F_Ldraw.kp O.b_Ldraw .nil pass0 (pa_cons (pv 0) (pa_cons pe_int pa_nil))))) pa_nil)) (blkOk_by (own := [("_law_kind", 3), ("_law_bit", 4)]) (N := ["_law_hand_here", "_law_many", "_law_lot_here", "_law_kind", "_law_bit", "_law_turn"]) (sc := defScope s_Llot) (scope := ({ kind := .function, names := [(".0", .local), ("_law_kind", .local), ("_law_bit", .local)], isGenerator := false, isCoroutine := false } : Scope)) (by decide +kernel)) (fun _ _ _ _ _ => (show PG _ _ (gTup K 2 _) from pg_tup rfl (pgs_cons (pg_name (i := 3) sc_Llot.nd rfl (Or.inl rfl) (Or.inr rfl)) (pgs_cons (pg_name (i := 4) sc_Llot.nd rfl (Or.inl rfl) (Or.inr rfl)) pgs_nil)))) (fun _ _ _ _ _ => (pts_one (pt_cmpR op_eq (pv 4) pe_int (nomark _)))) (fun _ _ _ _ _ => (pv 3)))
  (pss_one (ps_ret (pe_ifExp (pt_cmpR op_gt (pe_callB (r := Jv.rLenK K) Jv.cr_len (by rfl) O.z_len (by decide +kernel) (pa_cons (pv 2) pa_nil)) pe_int (nomark _)) (pv 2) (pe_lst (pa_cons (pe_call (ok_Ldraw T O) (hr.mono (by decide)) (by rfl) O.m_Ldraw O.F_Ldraw.kp O.b_Ldraw .nil pass0 (pa_cons (pv 0) (pa_cons (pv 1) pa_nil))) pa_nil)))))), ?_⟩
  walk_at "r"
  refine Jv.r_lc ?_
  walk_at "r"
  refine Jv.r_lc ?_
  walk_at "r"
  refine ⟨m, rfl, by omega, by omega, ?_⟩
  intro D hD
  have nD := hh.ne2 hD
  refine lc_it (walk_range (lo := 0) (n := m.toNat)) (fun j H1 => Jv.Kp h H H1 ∧ Jv.Hand H1 h l ∧ ∃ zs : List Int, H1 D = some (.lst (zs.map V.int)) ∧ zs.length = j) ⟨Jv.Kp.new hD, hh.same (Jv.same_new hD), [], upd_same, rfl⟩ (fun _ _ _ _ => trivial) ?_ ?_
  · rintro j x H1 H2 hj ⟨k1, h1, zs, e1, lz⟩ ⟨rfl, rfl⟩
    walk_at "r"
    refine ⟨h, l, _, rfl, h1, ⟨by decide, Jv.log_small (by decide) (by decide)⟩, fun z H3 z0 z1 k3 h3 => ?_⟩
    walk_at "r"
    have e3 := k3 D _ nD.1 e1
    refine ⟨zs.map V.int, e3, ?_, fun c o nc hc => ?_, h3.upd nD.1 nD.2, zs ++ [z], ?_, by rw [List.length_append, lz]; rfl⟩
    · rw [List.length_map]; exact Jv.small_lt (by omega)
    · rw [upd_ne (ne_of_none hc hD)]; exact k3 c o nc (k1 c o nc hc)
    · rw [upd_same, List.map_append]; rfl
  · rintro H1 ⟨k1, h1, zs, e1, lz⟩
    walk_at "r"
    refine ⟨D, _, rfl, Jv.sqL_at e1, fun F hF => ?_⟩
    refine lc_it (walk_enum (K := K) (a := D) (xs := zs.map V.int)) (fun i H2 => Same H1 H2 ∧ ∃ ns : List Int, H2 F = some (.lst (ns.map V.int)) ∧ ns.Pairwise (· < ·) ∧ (∀ n ∈ ns, 0 ≤ n ∧ n < i) ∧ ns.length ≤ i) ⟨Jv.same_new hF, [], upd_same, .nil, fun _ hm => (by cases hm), Nat.le_refl _⟩ (fun i H2 _ h => h.1.seq (Jv.sqL_at e1)) ?_ ?_
    · rintro i x H2 H3 hi ⟨s2, ns, e2, pw, nb, ln⟩ ⟨p, x1, x2, rfl, hp, rfl, hx, hy⟩
      cases hx
      obtain ⟨z, hz, rfl⟩ := Jv.map_at (show (zs.map V.int)[i]? = some x2 from hy)
      rw [List.length_map] at hi
      have e3 := Jv.kp (u := .tup [V.int i, V.int z]) e2 hp
      have s3 := s2.trans (Jv.same_new (u := .tup [V.int i, V.int z]) hp)
      walk_at "r"
      refine Jv.r_decI (fun hz1 => ?_) (fun hz1 => ?_)
      · walk_at "r"
        refine ⟨_, e3, ?_, fun c o hc => ?_, ns ++ [(i : Int)], ?_, ?_, ?_, by rw [List.length_append]; simp; exact ln⟩
        · rw [List.length_map]; exact Jv.small_lt (by omega)
        · rw [upd_ne (ne_of_none hc hF)]; exact s3 _ _ hc
        · rw [upd_same, List.map_append]; rfl
        · rw [List.pairwise_append]
          refine ⟨pw, List.pairwise_singleton _ _, fun n hn x hx => ?_⟩
          rw [List.mem_singleton.mp hx]
          exact (nb n hn).2
        · intro n hn
          rcases List.mem_append.mp hn with hn | hn
          · have := nb n hn; omega
          · rw [List.mem_singleton.mp hn]; omega
      · exact ⟨s3, ns, e3, pw, fun n hn => by have := nb n hn; omega, by omega⟩
    · rintro H2 ⟨s2, ns, e2, pw, nb, ln⟩
      walk_at "r"
      rw [List.length_map] at nb
      rw [List.length_map]
      have k2 := k1.trans (Jv.Kp.same (p := h) s2)
      have h2 := h1.same s2
      have hF0 := k1.free h1 hF
      refine Jv.r_dec (fun hl => ?_) (fun hl => ?_)
      · walk_at "r"
        exact k F ns H2 ⟨fun n hn => by have := nb n hn; omega, by omega, pw⟩ hF0 e2 k2 h2
      · walk_at "r"
        refine ⟨h, l, m, rfl, h2, ⟨by omega, Jv.log_small (by omega) (by omega)⟩, fun z H3 z0 z1 k3 h3 => ?_⟩
        walk_at "r"
        intro t ht
        have k23 := k2.trans k3
        exact k t [z] _ ⟨fun n hn => by rw [List.mem_singleton.mp hn]; omega, by simp, List.pairwise_singleton _ _⟩ (k23.free h3 ht) upd_same (k23.trans (Jv.Kp.new ht)) (h3.same (Jv.same_new ht))
end
end K04

namespace K04
open PySem PySem.Spec PyProof.Rows L2
/-! ### goals cut: the law's reading -/
def sp_Lraise_right (K : PySem.W.Frag) (C : Addr) : Sp := fun vs H Q _ => ∃ a o l L k0 k1, ∃ p q : Nat, ∃ w k, vs = [.ref a, .ref o] ∧ GAt K H C a l (wantT L) k0 k1 p q ∧ Wd l L p q ∧ SqT K H o [.int l, w, k] ∧ Jv.Dv K H w (wantT L) ∧ Jv.Dv K H k (.tuple [.bool k0, .bool k1]) ∧ ∀ H', Same H H' → Q (.bl true) H'
/-- a list of words and numbers that is told -/
def Word (vs : List V) (ds : List PyData) : Prop := (∀ (K : PySem.W.Frag) (H : Hp), DpAll K H vs ds) ∧ SeqAt.shaped (.list ds) = true ∧ PyData.canLay0 (.list ds) = true
theorem word_lot0 : Word [.str "lot", .int 0] [.str "lot", .int 0] := ⟨fun _ _ => .cons (.str _) (.cons (.int _) .nil), by decide +kernel, by decide +kernel⟩
theorem word_lot1 : Word [.str "lot", .int 1] [.str "lot", .int 1] := ⟨fun _ _ => .cons (.str _) (.cons (.int _) .nil), by decide +kernel, by decide +kernel⟩
theorem word_side : Word [.str "side"] [.str "side"] := ⟨fun _ _ => .cons (.str _) .nil, by decide +kernel, by decide +kernel⟩
theorem word_couple : Word [.str "couple"] [.str "couple"] := ⟨fun _ _ => .cons (.str _) .nil, by decide +kernel, by decide +kernel⟩
theorem word_end : Word [.str "end"] [.str "end"] := ⟨fun _ _ => .cons (.str _) .nil, by decide +kernel, by decide +kernel⟩
theorem word_ladder : Word [.str "goals", .str "ladder"] [.str "goals", .str "ladder"] := ⟨fun _ _ => .cons (.str _) (.cons (.str _) .nil), by decide +kernel, by decide +kernel⟩
theorem word_wanted : Word [.str "goals", .str "wanted"] [.str "goals", .str "wanted"] := ⟨fun _ _ => .cons (.str _) (.cons (.str _) .nil), by decide +kernel, by decide +kernel⟩
theorem word_sides : Word [.str "goals", .str "sides"] [.str "goals", .str "sides"] := ⟨fun _ _ => .cons (.str _) (.cons (.str _) .nil), by decide +kernel, by decide +kernel⟩
theorem word_knows : Word [.str "goals", .str "knows"] [.str "goals", .str "knows"] := ⟨fun _ _ => .cons (.str _) (.cons (.str _) .nil), by decide +kernel, by decide +kernel⟩
section
variable {K : PySem.W.Frag} {H : Hp} {r t : Addr} {vs : List V} {ds : List PyData} {Q : VK}
theorem Word.ne (W : Word vs ds) (h1 : H r = some (.lst vs)) (h2 : H t = some (.lst vs)) (q : Q (.bl false) H) : rNeD K (.ref r) (.ref t) H Q :=
  ⟨.list ds, .list ds, .lst (Jv.sqL_at h1) (W.1 K H), .lst (Jv.sqL_at h2) (W.1 K H), W.2.1, W.2.1, by rw [SeqAt.eqv_refl _ W.2.2]; exact q⟩
theorem Word.eq (W : Word vs ds) (h1 : H r = some (.lst vs)) (h2 : H t = some (.lst vs)) (q : Q (.bl true) H) : rEqD K (.ref r) (.ref t) H Q :=
  ⟨.list ds, .list ds, .lst (Jv.sqL_at h1) (W.1 K H), .lst (Jv.sqL_at h2) (W.1 K H), W.2.1, W.2.1, by rw [SeqAt.eqv_refl _ W.2.2]; exact q⟩
end
section
variable {P : Program} {w : World} {K : PySem.W.Frag} {mg : Str → Option Value} {base : Heap}
theorem ok_Lraise_right (T : Tx) (O : Ok K mg T) : FnOk P w K mg base CX0 7 T.f_Lraise_right T.d_Lraise_right ["_law_goals", "_law_one"] (sp_Lraise_right K T.C_Goals) := by
  refine O.F_Lraise_right.ok sc_Lraise_right (fun vs H Q E h => by obtain ⟨_, _, _, _, _, _, _, _, _, _, rfl, _⟩ := h; rfl) (fun cdv A outer s H vs Q E hr h => ?_)
  obtain ⟨a, o, l, L, k0, k1, p, q, wv, kv, rfl, hg, hw, ho, hW, hK, k⟩ := h
  refine ⟨_, (pss_cons (ps_asg (pv 1) (pg_tup rfl (pgs_cons (pg_name (i := 2) sc_Lraise_right.nd rfl (Or.inl rfl)) (pgs_cons (pg_name (i := 3) sc_Lraise_right.nd rfl (Or.inl rfl)) (pgs_cons (pg_name (i := 4) sc_Lraise_right.nd rfl (Or.inl rfl)) pgs_nil)))))
  (pss_cons (ps_for PassesOwn.never rfl (pi_range2 (by rfl) O.z_range (pa_cons (pe_un un_neg pe_int) (pa_cons pe_int pa_nil))) (pg_name (i := 5) sc_Lraise_right.nd rfl (Or.inr rfl)) (pss_cons (ps_set (i := 6) sc_Lraise_right.nd rfl (Or.inl rfl) (pe_call (ok_Lraised T O) (hr.mono (by decide)) (by rfl) O.m_Lraised O.F_Lraised.kp O.b_Lraised .nil pass0 (pa_cons (pv 0) (pa_cons (pv 5) pa_nil))))
  (pss_one (ps_if (PW.pt (pw_or (pt_cmpR op_lt (pv 5) pe_int (nomark _)) (pw_or1 (pt_cmpR op_gt (pe_op op_add (pv 2) (pv 5)) pe_int (nomark _))))) (pss_one (ps_if (pt_cmpR (r := rNeD K) (op_neD hr.units) (pv 6) (pe_lst (pa_cons pe_str (pa_cons pe_str pa_nil))) (nomark _)) (pss_one (ps_ret pe_bl)) pss_nil)) (pss_cons (ps_set (i := 7) sc_Lraise_right.nd rfl (Or.inl rfl) (pe_lst pa_nil))
  (pss_cons (ps_for PassesOwn.never rfl (Jv.piOr (show PI _ _ _ (iList K _) from pi_list (pv 3)) (show PI _ _ _ (iTup K _) from pi_tup (pv 3))) (pg_name (i := 8) sc_Lraise_right.nd rfl (Or.inl rfl)) (pss_one (ps_expr (show PE _ _ (tBM K _ _ _ _) from pe_bm PySem.F.plainAttrs_list PySem.F.slot_list_append PySem.F.type_list_append mt_append (pv 7) (pa_cons (pe_callTy (r := Jv.rTupOf K) call_tuple_of (by rfl) O.z_tuple (by decide +kernel) (pa_cons (pe_lc (own := [("_law_ends_here", 9)]) (by rfl) sc_Lraise_right.nd (Jv.piOr (show PI _ _ _ (iList K _) from pi_list (pv 8)) (show PI _ _ _ (iTup K _) from pi_tup (pv 8))) (blkOk_by (own := [("_law_ends_here", 9)]) (N := ["_law_goals", "_law_one", "_law_ladder", "_law_wanted", "_law_knows", "_law_by", "_law_told", "_law_lines", "_law_line", "_law_ends_here", "_law_end"]) (sc := defScope s_Lraise_right) (scope := ({ kind := .function, names := [(".0", .local), ("_law_ends_here", .local), ("tuple", .globalImplicit), ("_law_by", .free)], isGenerator := false, isCoroutine := false } : Scope)) (by decide +kernel)) (fun _ _ _ _ _ => (pg_name (i := 9) sc_Lraise_right.nd rfl (Or.inl rfl))) (fun _ _ _ _ _ => pts_nil) (fun _ _ _ _ _ => (pe_callTy (r := Jv.rTupOf K) call_tuple_of (by rfl) O.z_tuple (by decide +kernel) (pa_cons (pe_lc (own := [("_law_end", 10)]) (by rfl) sc_Lraise_right.nd (Jv.piOr (show PI _ _ _ (iList K _) from pi_list (pv 9)) (show PI _ _ _ (iTup K _) from pi_tup (pv 9))) (blkOk_by (own := [("_law_end", 10)]) (N := ["_law_goals", "_law_one", "_law_ladder", "_law_wanted", "_law_knows", "_law_by", "_law_told", "_law_lines", "_law_line", "_law_ends_here", "_law_end"]) (sc := ({ kind := .function, names := [(".0", .local), ("_law_ends_here", .local), ("tuple", .globalImplicit), ("_law_by", .cell)], isGenerator := false, isCoroutine := false } : Scope)) (scope := ({ kind := .function, names := [(".0", .local), ("_law_end", .local), ("_law_by", .free)], isGenerator := false, isCoroutine := false } : Scope)) (by decide +kernel)) (fun _ _ _ _ _ => (pg_name (i := 10) sc_Lraise_right.nd rfl (Or.inl rfl))) (fun _ _ _ _ _ => pts_nil) (fun _ _ _ _ _ => (pe_ifExp (pt_cmpR op_ge (pv 10) pe_int (nomark _)) (pe_op op_add (pv 10) (pv 5)) (pe_op op_sub (pv 10) (pv 5))))) pa_nil)))) pa_nil)) pa_nil)))))
  (pss_one (ps_if (pt_not (pt_val (pe_call (ok_Lgoal_facts T O) (hr.mono (by decide)) (by rfl) O.m_Lgoal_facts O.F_Lgoal_facts.kp O.b_Lgoal_facts .nil pass0 (pa_cons (pv 6) (pa_cons (pe_op op_add (pv 2) (pv 5)) (pa_cons (pe_callTy (r := Jv.rTupOf K) call_tuple_of (by rfl) O.z_tuple (by decide +kernel) (pa_cons (pv 7) pa_nil)) (pa_cons (pv 4) pa_nil))))))) (pss_one (ps_ret pe_bl)) pss_nil))))))))
  (pss_one (ps_ret (pe_and (pe_cmpR (r := rEqD K) (op_eqD hr.units) (pe_call (ok_Lraised T O) (hr.mono (by decide)) (by rfl) O.m_Lraised O.F_Lraised.kp O.b_Lraised .nil pass0 (pa_cons (pv 0) (pa_cons pe_bl pa_nil))) (pe_lst (pa_cons pe_str (pa_cons pe_str pa_nil))) (nomark _)) (pe_one (pe_cmpR (r := rEqD K) (op_eqD hr.units) (pe_call (ok_Lraised T O) (hr.mono (by decide)) (by rfl) O.m_Lraised O.F_Lraised.kp O.b_Lraised .nil pass0 (pa_cons (pv 0) (pa_cons pe_non pa_nil))) (pe_lst (pa_cons pe_str (pa_cons pe_str pa_nil))) (nomark _)))))))), ?_⟩
  walk_at "r"
  have hp6 := hw.p6
  have hq6 := hw.q6
  have hpL := hw.hp
  have l0 := hw.l0
  have l6 := hw.l6
  obtain ⟨wa, us, rfl, sqw, alu⟩ : ∃ wa us, wv = .ref wa ∧ SqT K H wa us ∧ Jv.DvAll K H us (L.map lineT) := by
    cases hW with
    | tup h qd => exact ⟨_, _, rfl, h, qd⟩
  have hW : Jv.Dv K H (.ref wa) (wantT L) := .tup sqw alu
  have lus := alu.len
  rw [List.length_map] at lus
  refine ⟨-1, 8, rfl, ⟨by decide, by decide, by decide, by decide⟩, ?_⟩
  refine for_range (lo := -1) (n := ((8 : Int) - -1).toNat) (fun i σ H1 => ∃ y5 y6 y7 y8, σ = [some (.ref a), some (.ref o), some (.int l), some (.ref wa), some kv, y5, y6, y7, y8, none, none] ∧ Same H H1) ⟨_, _, _, _, rfl, Same.refl _⟩ ?_ ?_
  · rintro i σ H1 hi ⟨y5, y6, y7, y8, rfl, s1⟩
    have hi9 : i < 9 := hi
    walk_at "r"
    refine ⟨a, _, l, L, k0, k1, p, q, .int (-1 + (i : Int)), rfl, hg.same s1, hw, .int _, ?_⟩
    by_cases hb : 0 ≤ -1 + (i : Int) ∧ l + (-1 + (i : Int)) ≤ 6
    · refine .inl ⟨_, rfl, hb.1, hb.2, fun r H2 s2 ga => ?_⟩
      have s12 := s1.trans s2
      walk_at "r"
      refine Jv.r_dec0 (by omega) ?_
      walk_at "r"
      refine Jv.r_dec0 (by omega) ?_
      walk_at "r"
      intro D hD
      have sD := s12.trans (Jv.same_new (u := .lst []) hD)
      walk_at "r"
      refine .inr ⟨_, rfl, wa, rfl, ⟨_, Jv.Same.sqT sD sqw⟩, ?_⟩
      refine for_tup (xs := us) (fun j σ H3 => ∃ y8 xs, σ = [some (.ref a), some (.ref o), some (.int l), some (.ref wa), some kv, some (.int (-1 + (i : Int))), some (.ref r), some (.ref D), y8, none, none] ∧ Same H2 H3 ∧ H3 D = some (.lst xs) ∧ Jv.DvAll K (Jv.hide [D] H3) xs (((raiseL (-1 + (i : Int)) L).take j).map lineT))
        ⟨_, [], rfl, Jv.same_new hD, upd_same, .nil⟩ (fun j σ H3 _ ⟨_, _, _, s3, _⟩ => Jv.Same.sqT (s12.trans s3) sqw) ?_ ?_
      · rintro j v σ H3 hv ⟨y8, xs, rfl, s3, e3, al⟩
        obtain ⟨dl, c1, c2⟩ := alu.at hv
        rw [List.getElem?_map] at c1
        obtain ⟨line, c3, rfl⟩ := Option.map_eq_some_iff.mp c1
        have hline := List.mem_of_getElem? c3
        have hlq := hw.hq line hline
        have hjL := (List.getElem?_eq_some_iff.mp c3).1
        have hN3 : Jv.Held [D] H3 := fun c m => by rw [List.mem_singleton.mp m]; exact ⟨_, e3⟩
        obtain ⟨vs, skv, alv⟩ := (c2.same (s12.trans s3)).sk rfl
        have lvs := alv.len
        rw [List.length_map] at lvs
        have lxs := al.len
        rw [List.length_map, List.length_take] at lxs
        walk_at "r"
        refine Jv.lcS2 (K := K) (N := [D]) (j := 9) (i := 8) rfl skv hN3 ((line.map fun ns => ns.map (raiseI (-1 + (i : Int)))).map fun ns => .tuple (ns.map .int)) (by rw [List.length_map, List.length_map]; omega) (by omega) (fun i2 u e2 D2 H7 hi2 hu he2 s7 hN2 hD2 PP2 hP2 => ?_) (fun D2 ys2 H7 s7 hD2 eD2 dv2 _ => ?_)
        · obtain ⟨dn, n1, n2⟩ := alv.at hu
          rw [List.getElem?_map] at n1
          obtain ⟨ns, n3, rfl⟩ := Option.map_eq_some_iff.mp n1
          have ee2 : e2 = .tuple ((ns.map (raiseI (-1 + (i : Int)))).map .int) := by
            rw [List.map_map, List.getElem?_map, n3] at he2
            exact (Option.some.inj he2).symm
          subst ee2
          obtain ⟨us3, skU3, alU3⟩ := (n2.same s7).sk rfl
          obtain rfl := Jv.dv_intsV alU3
          obtain ⟨few60, _⟩ := hw.range hline (List.mem_of_getElem? n3)
          walk_at "r"
          refine Jv.lcS2 (K := K) (N := [D2, D]) (j := 10) (i := 9) rfl skU3 hN2 ((ns.map (raiseI (-1 + (i : Int)))).map .int) (by rw [List.length_map, List.length_map, List.length_map]) (by rw [List.length_map]; omega) (fun i3 z e3' D3 H8 hi3 hz he3 s8 hN3 hD3 PP3 hP3 => ?_) (fun D3 ys3 H8 s8 hD3 eD3 dv3 _ => ?_)
          · obtain ⟨zz, hzz, rfl⟩ := Jv.map_at hz
            have ee3 : e3' = .int (raiseI (-1 + (i : Int)) zz) := by
              rw [List.map_map, List.getElem?_map, hzz] at he3
              exact (Option.some.inj he3).symm
            subst ee3
            walk_at "r"
            refine Jv.r_dec (fun hzp => ?_) (fun hzp => ?_)
            · have er : raiseI (-1 + (i : Int)) zz = zz + (-1 + (i : Int)) := by unfold raiseI; rw [if_neg (by omega)]
              rw [er] at hP3
              walk_at "r"
              exact hP3 _ _ (Same.refl _) (.int _)
            · have er : raiseI (-1 + (i : Int)) zz = zz - (-1 + (i : Int)) := by unfold raiseI; rw [if_pos (by omega)]
              rw [er] at hP3
              walk_at "r"
              exact hP3 _ _ (Same.refl _) (.int _)
          · walk_at "r"
            refine ⟨D3, _, rfl, .inl ⟨Jv.sqL_at eD3, fun t2 ht2 => ?_⟩⟩
            exact hP2 _ _ (s8.trans (Jv.same_new ht2)) (Jv.dv_new ht2 (hN2.same s8) dv3)
        · walk_at "r"
          refine ⟨D2, _, rfl, .inl ⟨Jv.sqL_at eD2, fun t2 ht2 => ?_⟩⟩
          walk_at "r"
          refine Jv.r_app (Jv.kp (s7 _ _ e3) ht2) (by omega) ?_
          have s7n := s7.trans (Jv.same_new (u := .tup ys2) ht2)
          refine ⟨_, xs ++ [.ref t2], rfl, fun c ob hc => ?_, upd_same, ?_⟩
          · rw [upd_ne (ne_of_none hc hD)]; exact s7n _ _ (s3 _ _ hc)
          · rw [Jv.hide_mem (by simp), Jv.take_more (x := line.map fun ns => ns.map (raiseI (-1 + (i : Int)))) (by unfold raiseL; rw [List.getElem?_map, c3]; rfl), List.map_append]
            exact Jv.DvAll.snoc (Jv.dv_new ht2 (hN3.same s7) dv2) (al.same (Jv.hide_same s7n))
      · rintro σ H3 ⟨y8, xs, rfl, s3, e3, al⟩
        have s13 := s12.trans s3
        rw [List.take_of_length_le (by unfold raiseL; rw [List.length_map]; omega)] at al
        walk_at "r"
        refine ⟨D, _, rfl, .inl ⟨Jv.sqL_at e3, fun t ht => ?_⟩⟩
        have s3t := s13.trans (Jv.same_new (u := .tup xs) ht)
        walk_at "r"
        refine ⟨r, l + (-1 + (i : Int)), raiseL (-1 + (i : Int)) L, k0, k1, p, q, .ref t, kv, rfl, ga.same (s3.trans (Jv.same_new ht)), hw.raise hb.1 hb.2, .tup (Jv.sqT_at upd_same) (al.same ((Jv.hide_le).trans (Jv.same_new ht))), hK.same s3t, fun H4 s4 => ?_⟩
        walk_at "r"
        exact ⟨_, _, _, _, rfl, s3t.trans s4⟩
    · refine .inr ⟨?_, fun r H2 s2 hr => ?_⟩
      · show (decide _ && decide _) = false
        rw [Bool.and_eq_false_iff, decide_eq_false_iff_not, decide_eq_false_iff_not]; omega
      · have s12 := s1.trans s2
        walk_at "r"
        by_cases hb0 : -1 + (i : Int) < 0
        · refine Jv.r_dec1 hb0 ?_
          walk_at "r"
          intro t ht
          walk_at "r"
          refine word_ladder.ne (Jv.kp hr ht) upd_same ?_
          walk_at "r"
          exact ⟨_, _, _, _, rfl, s12.trans (Jv.same_new ht)⟩
        · refine Jv.r_dec0 hb0 ?_
          walk_at "r"
          refine Jv.r_dec1 (by omega) ?_
          walk_at "r"
          intro t ht
          walk_at "r"
          refine word_ladder.ne (Jv.kp hr ht) upd_same ?_
          walk_at "r"
          exact ⟨_, _, _, _, rfl, s12.trans (Jv.same_new ht)⟩
  · rintro σ H1 ⟨y5, y6, y7, y8, rfl, s1⟩
    walk_at "r"
    refine ⟨a, _, l, L, k0, k1, p, q, .bool true, rfl, hg.same s1, hw, .bl _, .inr ⟨rfl, fun r H2 s2 hr => ?_⟩⟩
    walk_at "r"
    intro t ht
    walk_at "r"
    refine word_ladder.eq (Jv.kp hr ht) upd_same ?_
    walk_at "r"
    have s3 := (s1.trans s2).trans (Jv.same_new (u := .lst [.str "goals", .str "ladder"]) ht)
    refine ⟨a, _, l, L, k0, k1, p, q, .none, rfl, hg.same s3, hw, .non, .inr ⟨rfl, fun r2 H3 s4 hr2 => ?_⟩⟩
    walk_at "r"
    intro t2 ht2
    walk_at "r"
    refine word_ladder.eq (Jv.kp hr2 ht2) upd_same ?_
    exact k _ ((s3.trans s4).trans (Jv.same_new ht2))
end
end K04

namespace K04
open PySem PySem.Spec PyProof.Rows L2
/-! ### goals cut and turned: the law's reading -/
def sp_Lcut_right (K : PySem.W.Frag) (C : Addr) : Sp := fun vs H Q _ => ∃ h hl a sa o l L k0 k1, ∃ p q : Nat, ∃ wv kv, vs = [.ref h, .ref a, .ref sa, .ref o] ∧ Jv.Hand H h hl ∧ GAt K (Jv.hide [h] H) C a l (wantT L) k0 k1 p q ∧ Wd l L p q ∧ H sa = some (.tup [.int p, .int q]) ∧ H o = some (.tup [.int l, wv, kv]) ∧
  Jv.Dv K (Jv.hide [h] H) wv (wantT L) ∧ Jv.Dv K (Jv.hide [h] H) kv (.tuple [.bool k0, .bool k1]) ∧ ∀ H', Jv.Kp h H H' → Jv.Hand H' h hl → Q (.bl true) H'
theorem lot_bad {k : Int} {ns : List Int} {d : PyData} (e : Jv.seqD d = some (ns.map .int)) (h : ¬ Jv.lotP k ns) : lotD k d = false := by rw [lotD_of e, decide_eq_false h]
theorem order_bad {k : Int} {ns : List Int} {d : PyData} (e : Jv.seqD d = some (ns.map .int)) (h : ¬ Jv.orderP k ns) : orderD k d = false := by rw [orderD_of e, decide_eq_false h]
theorem few_of {ds : List PyData} {d : PyData} (e : Jv.seqD d = some ds) (h : ds.length ≤ 60) : few60 d := fun ds' e' => by rw [e] at e'; cases e'; exact h
theorem few_none {d : PyData} (e : Jv.seqD d = none) : few60 d := fun ds' e' => by rw [e] at e'; cases e'
theorem order_of {k : Nat} {ns : List Int} (h : ns.Perm (Jv.rgI ((k : Int)).toNat)) : Jv.orderP k ns := ⟨fun n hn => by
  have := h.mem_iff.mp hn
  unfold Jv.rgI at this
  obtain ⟨i, hi, rfl⟩ := List.mem_map.mp this
  rw [List.mem_range] at hi
  omega, h⟩
theorem cut1 {ns : List Int} (h : 1 ≤ (ns.map V.int).length) : cutV (ns.map V.int) (some 1) none = (ns.drop 1).map V.int := by
  unfold cutV
  have h1 : HT.sIx (ns.map V.int).length 0 (some 1) = 1 := by
    show (if (1 : Int) < 0 then ((1 : Int) + ((ns.map V.int).length : Int)).toNat else min (1 : Int).toNat (ns.map V.int).length) = 1
    rw [if_neg (by decide)]
    show min 1 _ = 1
    omega
  rw [h1]
  show ((ns.map V.int).drop 1).take ((ns.map V.int).length - 1) = _
  rw [List.take_of_length_le (by rw [List.length_drop]; exact Nat.le_refl _), List.map_drop]
theorem r_sl1 {r : V → Option Int → Option Int → Hp → VK → Prop} {te tl : TE} {σ : L2.St} {H : Hp} {Q : VK} (h : te σ H fun x H1 => tl σ H1 fun y H2 => ∃ i, y = .int i ∧ r x (some i) none H2 Q) : tSl r te (tPart tl) tNoPart σ H Q := h
theorem r_ifR {c : Bool} {A B : TE} {σ : L2.St} {H : Hp} {Q : VK} (R : V → Hp → Prop) (hR : ∀ v H1, R v H1 → Q v H1) (ha : c = true → ∀ Q1 : VK, (∀ v H1, R v H1 → Q1 v H1) → A σ H Q1) (hb : c = false → ∀ Q1 : VK, (∀ v H1, R v H1 → Q1 v H1) → B σ H Q1) : if c = true then A σ H Q else B σ H Q := by
  cases c with
  | true => exact ha rfl Q hR
  | false => exact hb rfl Q hR
theorem no_order_len {k : Nat} {ns : List Int} (h : ns.length ≠ k) : ¬ Jv.orderP k ns := fun o => h (order_len o)
theorem no_order_twice {k : Nat} {z : Int} {r : List Int} (o : Jv.orderP k (z :: r)) (hz : z ≠ 0) : ¬ Jv.orderP k (0 :: r) := fun o2 => by
  have nd : ((List.range ((k : Int)).toNat).map fun (i : Nat) => (i : Int)).Nodup := by
    refine List.Pairwise.imp (R := (· < ·)) (fun h => ?_) ?_
    · omega
    · rw [List.pairwise_map]
      exact List.pairwise_lt_range.imp fun h => by omega
  have n2 := (o2.2.nodup_iff).mpr nd
  have h0 : (0 : Int) ∈ z :: r := o.2.mem_iff.mpr (o2.2.mem_iff.mp List.mem_cons_self)
  rcases List.mem_cons.mp h0 with e | e
  · exact hz e.symm
  · exact (List.nodup_cons.mp n2).1 e
section
variable {P : Program} {w : World} {K : PySem.W.Frag} {mg : Str → Option Value} {base : Heap}
set_option maxHeartbeats 0 in
theorem ok_Lcut_right (T : Tx) (O : Ok K mg T) : FnOk P w K mg base CX0 7 T.f_Lcut_right T.d_Lcut_right ["_law_hand_here", "_law_goals", "_law_sides", "_law_one"] (sp_Lcut_right K T.C_Goals) := by
  refine O.F_Lcut_right.ok sc_Lcut_right (fun vs H Q E h => by obtain ⟨_, _, _, _, _, _, _, _, _, _, _, _, _, rfl, _⟩ := h; rfl) (fun cdv A outer s H vs Q E hr h => ?_)
  obtain ⟨h, hl, a, sa, o, l, L, k0, k1, p, q, wv, kv, rfl, hh, hg, hw, hsa, ho, hW, hK, k⟩ := h
  refine ⟨_, (pss_cons (ps_asg (pv 3) (pg_tup rfl (pgs_cons (pg_name (i := 4) sc_Lcut_right.nd rfl (Or.inl rfl)) (pgs_cons (pg_name (i := 5) sc_Lcut_right.nd rfl (Or.inr rfl)) (pgs_cons (pg_name (i := 6) sc_Lcut_right.nd rfl (Or.inl rfl)) pgs_nil)))))
  (pss_cons (ps_set (i := 7) sc_Lcut_right.nd rfl (Or.inl rfl) (pe_call (ok_Llot T O) (hr.mono (by decide)) (by rfl) O.m_Llot O.F_Llot.kp O.b_Llot .nil pass0 (pa_cons (pv 0) (pa_cons (pe_ix (r := rIx K) ix_seq (pv 2) pe_int (fun _ _ => rfl)) pa_nil))))
  (pss_cons (ps_set (i := 8) sc_Lcut_right.nd rfl (Or.inr rfl) (pe_call (ok_Llot T O) (hr.mono (by decide)) (by rfl) O.m_Llot O.F_Llot.kp O.b_Llot .nil pass0 (pa_cons (pv 0) (pa_cons (pe_ix (r := rIx K) ix_seq (pv 2) pe_int (fun _ _ => rfl)) pa_nil))))
  (pss_cons (ps_set (i := 9) sc_Lcut_right.nd rfl (Or.inl rfl) (pe_callTy (r := Jv.rTupOf K) call_tuple_of (by rfl) O.z_tuple (by decide +kernel) (pa_cons (pe_lc (own := [("_law_first", 14)]) (by rfl) sc_Lcut_right.nd (Jv.piOr (show PI _ _ _ (iList K _) from pi_list (pv 7)) (show PI _ _ _ (iTup K _) from pi_tup (pv 7))) (blkOk_by (own := [("_law_first", 14)]) (N := ["_law_hand_here", "_law_goals", "_law_sides", "_law_one", "_law_ladder", "_law_wanted", "_law_knows", "_law_east", "_law_west", "_law_due", "_law_bad", "_law_order_here", "_law_turn", "_law_bent", "_law_first", "_law_kind", "_law_line", "_law_second"]) (sc := defScope s_Lcut_right) (scope := ({ kind := .function, names := [(".0", .local), ("_law_first", .cell), ("tuple", .globalImplicit), ("_law_wanted", .free), ("_law_west", .free)], isGenerator := false, isCoroutine := false } : Scope)) (by decide +kernel)) (fun _ _ _ _ _ => (pg_name (i := 14) sc_Lcut_right.nd rfl (Or.inr rfl))) (fun _ _ _ _ _ => pts_nil) (fun _ _ _ _ _ => (pe_callTy (r := Jv.rTupOf K) call_tuple_of (by rfl) O.z_tuple (by decide +kernel) (pa_cons (pe_lc (own := [("_law_second", 17)]) (by rfl) sc_Lcut_right.nd (Jv.piOr (show PI _ _ _ (iList K _) from pi_list (pv 8)) (show PI _ _ _ (iTup K _) from pi_tup (pv 8))) (blkOk_by (own := [("_law_second", 17)]) (N := ["_law_hand_here", "_law_goals", "_law_sides", "_law_one", "_law_ladder", "_law_wanted", "_law_knows", "_law_east", "_law_west", "_law_due", "_law_bad", "_law_order_here", "_law_turn", "_law_bent", "_law_first", "_law_kind", "_law_line", "_law_second"]) (sc := ({ kind := .function, names := [(".0", .local), ("_law_first", .cell), ("tuple", .globalImplicit), ("_law_wanted", .cell), ("_law_west", .cell)], isGenerator := false, isCoroutine := false } : Scope)) (scope := ({ kind := .function, names := [(".0", .local), ("_law_second", .local), ("_law_first", .free), ("_law_wanted", .free)], isGenerator := false, isCoroutine := false } : Scope)) (by decide +kernel)) (fun _ _ _ _ _ => (pg_name (i := 17) sc_Lcut_right.nd rfl (Or.inl rfl))) (fun _ _ _ _ _ => pts_nil) (fun _ _ _ _ _ => (pe_ix (r := rIx K) ix_seq (pe_ix (r := rIx K) ix_seq (pv 5) (pv 14) (fun _ _ => rfl)) (pv 17) (fun _ _ => rfl)))) pa_nil)))) pa_nil)))
  (C8.pss_cut (ps_if (pt_not (pt_val (pe_call (ok_Lgoal_facts T O) (hr.mono (by decide)) (by rfl) O.m_Lgoal_facts O.F_Lgoal_facts.kp O.b_Lgoal_facts .nil pass0 (pa_cons (pe_call (ok_Lkept T O) (hr.mono (by decide)) (by rfl) O.m_Lkept O.F_Lkept.kp O.b_Lkept .nil pass0 (pa_cons (pv 1) (pa_cons (pv 7) (pa_cons (pe_callTy (r := Jv.rTupOf K) call_tuple_of (by rfl) O.z_tuple (by decide +kernel) (pa_cons (pv 8) pa_nil)) pa_nil)))) (pa_cons (pv 4) (pa_cons (pv 9) (pa_cons (pv 6) pa_nil))))))) (pss_one (ps_ret pe_bl)) pss_nil)
  (pss_cons (ps_set (i := 10) sc_Lcut_right.nd rfl (Or.inl rfl) (pe_ix (r := rIxL K) ix_list (pe_lst (pa_cons (pe_lst pa_nil) (pa_cons (pe_lst (pa_cons (pe_ix (r := rIx K) ix_seq (pv 2) pe_int (fun _ _ => rfl)) pa_nil)) (pa_cons (pe_lst (pa_cons pe_int (pa_cons pe_int pa_nil))) (pa_cons pe_non (pa_cons (pe_tup (pa_cons pe_bl pa_nil)) (pa_cons (pe_lst (pa_cons (pe_un un_neg pe_int) (pa_cons pe_int pa_nil))) (pa_cons (pe_lst (pa_cons pe_int (pa_cons pe_int pa_nil))) pa_nil)))))))) (pe_call (ok_Ldraw T O) (hr.mono (by decide)) (by rfl) O.m_Ldraw O.F_Ldraw.kp O.b_Ldraw .nil pass0 (pa_cons (pv 0) (pa_cons pe_int pa_nil))) (fun _ _ => rfl)))
  (C8.pss_cut (ps_if (PW.pt (pw_or (pt_cmpR (r := rNeD K) (op_neD hr.units) (pe_call (ok_Lkept T O) (hr.mono (by decide)) (by rfl) O.m_Lkept O.F_Lkept.kp O.b_Lkept .nil pass0 (pa_cons (pv 1) (pa_cons (pv 10) (pa_cons (pe_lst (pa_cons pe_int pa_nil)) pa_nil)))) (pe_lst (pa_cons pe_str (pa_cons pe_int pa_nil))) (nomark _)) (pw_or1 (pt_cmpR (r := rNeD K) (op_neD hr.units) (pe_call (ok_Lkept T O) (hr.mono (by decide)) (by rfl) O.m_Lkept O.F_Lkept.kp O.b_Lkept .nil pass0 (pa_cons (pv 1) (pa_cons (pv 7) (pa_cons (pe_lst (pa_cons (pe_ix (r := rIx K) ix_seq (pv 2) pe_int (fun _ _ => rfl)) pa_nil)) pa_nil)))) (pe_lst (pa_cons pe_str (pa_cons pe_int pa_nil))) (nomark _))))) (pss_one (ps_ret pe_bl)) pss_nil)
  (pss_cons (ps_set (i := 11) sc_Lcut_right.nd rfl (Or.inl rfl) (pe_call (ok_Lorder T O) (hr.mono (by decide)) (by rfl) O.m_Lorder O.F_Lorder.kp O.b_Lorder .nil pass0 (pa_cons (pv 0) (pa_cons (pe_ix (r := rIx K) ix_seq (pv 2) pe_int (fun _ _ => rfl)) pa_nil))))
  (pss_cons (ps_set (i := 9) sc_Lcut_right.nd rfl (Or.inl rfl) (pe_callTy (r := Jv.rTupOf K) call_tuple_of (by rfl) O.z_tuple (by decide +kernel) (pa_cons (pe_lc (own := [("_law_kind", 15)]) (by rfl) sc_Lcut_right.nd (Jv.piOr (show PI _ _ _ (iList K _) from pi_list (pv 11)) (show PI _ _ _ (iTup K _) from pi_tup (pv 11))) (blkOk_by (own := [("_law_kind", 15)]) (N := ["_law_hand_here", "_law_goals", "_law_sides", "_law_one", "_law_ladder", "_law_wanted", "_law_knows", "_law_east", "_law_west", "_law_due", "_law_bad", "_law_order_here", "_law_turn", "_law_bent", "_law_first", "_law_kind", "_law_line", "_law_second"]) (sc := defScope s_Lcut_right) (scope := ({ kind := .function, names := [(".0", .local), ("_law_kind", .local), ("_law_wanted", .free)], isGenerator := false, isCoroutine := false } : Scope)) (by decide +kernel)) (fun _ _ _ _ _ => (pg_name (i := 15) sc_Lcut_right.nd rfl (Or.inl rfl))) (fun _ _ _ _ _ => pts_nil) (fun _ _ _ _ _ => (pe_ix (r := rIx K) ix_seq (pv 5) (pv 15) (fun _ _ => rfl)))) pa_nil)))
  (C8.pss_cut (ps_if (pt_not (pt_val (pe_call (ok_Lgoal_facts T O) (hr.mono (by decide)) (by rfl) O.m_Lgoal_facts O.F_Lgoal_facts.kp O.b_Lgoal_facts .nil pass0 (pa_cons (pe_call (ok_Lrenumbered T O) (hr.mono (by decide)) (by rfl) O.m_Lrenumbered O.F_Lrenumbered.kp O.b_Lrenumbered .nil pass0 (pa_cons (pv 1) (pa_cons pe_int (pa_cons (pv 11) pa_nil)))) (pa_cons (pv 4) (pa_cons (pv 9) (pa_cons (pv 6) pa_nil))))))) (pss_one (ps_ret pe_bl)) pss_nil)
  (pss_cons (ps_set (i := 12) sc_Lcut_right.nd rfl (Or.inr rfl) (pe_call (ok_Lorder T O) (hr.mono (by decide)) (by rfl) O.m_Lorder O.F_Lorder.kp O.b_Lorder .nil pass0 (pa_cons (pv 0) (pa_cons (pe_ix (r := rIx K) ix_seq (pv 2) pe_int (fun _ _ => rfl)) pa_nil))))
  (pss_cons (ps_set (i := 9) sc_Lcut_right.nd rfl (Or.inl rfl) (pe_callTy (r := Jv.rTupOf K) call_tuple_of (by rfl) O.z_tuple (by decide +kernel) (pa_cons (pe_lc (own := [("_law_line", 16)]) (by rfl) sc_Lcut_right.nd (Jv.piOr (show PI _ _ _ (iList K _) from pi_list (pv 5)) (show PI _ _ _ (iTup K _) from pi_tup (pv 5))) (blkOk_by (own := [("_law_line", 16)]) (N := ["_law_hand_here", "_law_goals", "_law_sides", "_law_one", "_law_ladder", "_law_wanted", "_law_knows", "_law_east", "_law_west", "_law_due", "_law_bad", "_law_order_here", "_law_turn", "_law_bent", "_law_first", "_law_kind", "_law_line", "_law_second"]) (sc := defScope s_Lcut_right) (scope := ({ kind := .function, names := [(".0", .local), ("_law_line", .cell), ("tuple", .globalImplicit), ("_law_turn", .free)], isGenerator := false, isCoroutine := false } : Scope)) (by decide +kernel)) (fun _ _ _ _ _ => (pg_name (i := 16) sc_Lcut_right.nd rfl (Or.inr rfl))) (fun _ _ _ _ _ => pts_nil) (fun _ _ _ _ _ => (pe_callTy (r := Jv.rTupOf K) call_tuple_of (by rfl) O.z_tuple (by decide +kernel) (pa_cons (pe_lc (own := [("_law_kind", 15)]) (by rfl) sc_Lcut_right.nd (Jv.piOr (show PI _ _ _ (iList K _) from pi_list (pv 12)) (show PI _ _ _ (iTup K _) from pi_tup (pv 12))) (blkOk_by (own := [("_law_kind", 15)]) (N := ["_law_hand_here", "_law_goals", "_law_sides", "_law_one", "_law_ladder", "_law_wanted", "_law_knows", "_law_east", "_law_west", "_law_due", "_law_bad", "_law_order_here", "_law_turn", "_law_bent", "_law_first", "_law_kind", "_law_line", "_law_second"]) (sc := ({ kind := .function, names := [(".0", .local), ("_law_line", .cell), ("tuple", .globalImplicit), ("_law_turn", .cell)], isGenerator := false, isCoroutine := false } : Scope)) (scope := ({ kind := .function, names := [(".0", .local), ("_law_kind", .local), ("_law_line", .free)], isGenerator := false, isCoroutine := false } : Scope)) (by decide +kernel)) (fun _ _ _ _ _ => (pg_name (i := 15) sc_Lcut_right.nd rfl (Or.inl rfl))) (fun _ _ _ _ _ => pts_nil) (fun _ _ _ _ _ => (pe_ix (r := rIx K) ix_seq (pv 16) (pv 15) (fun _ _ => rfl)))) pa_nil)))) pa_nil)))
  (C8.pss_cut (ps_if (pt_not (pt_val (pe_call (ok_Lgoal_facts T O) (hr.mono (by decide)) (by rfl) O.m_Lgoal_facts O.F_Lgoal_facts.kp O.b_Lgoal_facts .nil pass0 (pa_cons (pe_call (ok_Lrenumbered T O) (hr.mono (by decide)) (by rfl) O.m_Lrenumbered O.F_Lrenumbered.kp O.b_Lrenumbered .nil pass0 (pa_cons (pv 1) (pa_cons pe_int (pa_cons (pe_callTy (r := Jv.rTupOf K) call_tuple_of (by rfl) O.z_tuple (by decide +kernel) (pa_cons (pv 12) pa_nil)) pa_nil)))) (pa_cons (pv 4) (pa_cons (pv 9) (pa_cons (pv 6) pa_nil))))))) (pss_one (ps_ret pe_bl)) pss_nil)
  (pss_cons (ps_set (i := 13) sc_Lcut_right.nd rfl (Or.inl rfl) (pe_ix (r := rIxL K) ix_list (pe_lst (pa_cons (pe_op op_cat (pv 11) (pe_lst (pa_cons pe_int pa_nil))) (pa_cons (pe_slice (r := rSlL K) sl_list (pv 11) (po_some pe_int) po_none) (pa_cons (pe_ifExp (pt_cmpR op_ne (pe_ix (r := rIx K) ix_seq (pv 11) pe_int (fun _ _ => rfl)) pe_int (nomark _)) (pe_op op_cat (pe_lst (pa_cons pe_int pa_nil)) (pe_slice (r := rSlL K) sl_list (pv 11) (po_some pe_int) po_none)) (pe_op op_cat (pv 11) (pv 11))) (pa_cons pe_non pa_nil))))) (pe_call (ok_Ldraw T O) (hr.mono (by decide)) (by rfl) O.m_Ldraw O.F_Ldraw.kp O.b_Ldraw .nil pass0 (pa_cons (pv 0) (pa_cons pe_int pa_nil))) (fun _ _ => rfl)))
  (pss_cons (ps_if (PW.pt (pw_or (pt_cmpR (r := rNeD K) (op_neD hr.units) (pe_call (ok_Lrenumbered T O) (hr.mono (by decide)) (by rfl) O.m_Lrenumbered O.F_Lrenumbered.kp O.b_Lrenumbered .nil pass0 (pa_cons (pv 1) (pa_cons pe_int (pa_cons (pv 13) pa_nil)))) (pe_lst (pa_cons pe_str (pa_cons pe_int pa_nil))) (nomark _)) (pw_or1 (pt_cmpR (r := rNeD K) (op_neD hr.units) (pe_call (ok_Lrenumbered T O) (hr.mono (by decide)) (by rfl) O.m_Lrenumbered O.F_Lrenumbered.kp O.b_Lrenumbered .nil pass0 (pa_cons (pv 1) (pa_cons pe_int (pa_cons (pv 13) pa_nil)))) (pe_lst (pa_cons pe_str pa_nil)) (nomark _))))) (pss_one (ps_ret pe_bl)) pss_nil)
  (pss_one (ps_ret (pe_and (pe_cmpR (r := rEqD K) (op_eqD hr.units) (pe_call (ok_Lrenumbered T O) (hr.mono (by decide)) (by rfl) O.m_Lrenumbered O.F_Lrenumbered.kp O.b_Lrenumbered .nil pass0 (pa_cons (pv 1) (pa_cons pe_int (pa_cons (pe_op op_cat (pv 12) (pe_lst (pa_cons (pe_callB (r := Jv.rLenK K) Jv.cr_len (by rfl) O.z_len (by decide +kernel) (pa_cons (pv 12) pa_nil)) pa_nil))) pa_nil)))) (pe_lst (pa_cons pe_str (pa_cons pe_int pa_nil))) (nomark _)) (pe_one (pe_cmpR (r := rEqD K) (op_eqD hr.units) (pe_call (ok_Lrenumbered T O) (hr.mono (by decide)) (by rfl) O.m_Lrenumbered O.F_Lrenumbered.kp O.b_Lrenumbered .nil pass0 (pa_cons (pv 1) (pa_cons pe_bl (pa_cons (pv 12) pa_nil)))) (pe_lst (pa_cons pe_str pa_nil)) (nomark _))))))))))))))))))))), ?_⟩
  have nsh : sa ≠ h := fun e => by
    obtain ⟨ns, k1, c, t, hA⟩ := hh
    rw [e, hA.hp] at hsa; cases hsa
  have hp0 := hw.p0
  have hq0 := hw.q0
  have hp6 := hw.p6
  have hq6 := hw.q6
  have hpL := hw.hp
  have gA : ∀ {Hn : Hp}, Jv.Kp h H Hn → GAt K Hn T.C_Goals a l (wantT L) k0 k1 p q := fun kn => (hg.same kn.hide).same Jv.hide_le
  have wA : ∀ {Hn : Hp}, Jv.Kp h H Hn → Jv.Dv K Hn wv (wantT L) := fun kn => (hW.same kn.hide).same Jv.hide_le
  have kA : ∀ {Hn : Hp}, Jv.Kp h H Hn → Jv.Dv K Hn kv (.tuple [.bool k0, .bool k1]) := fun kn => (hK.same kn.hide).same Jv.hide_le
  have sA : ∀ {Hn : Hp}, Jv.Kp h H Hn → Jv.Sk K Hn (.ref sa) [.int p, .int q] := fun kn => ⟨sa, rfl, .inr (Jv.sqT_at (kn sa _ nsh hsa))⟩
  walk_at "r"
  refine (sA Jv.Kp.refl).ix (k := 0) (v := .int p) rfl ?_
  walk_at "r"
  refine ⟨h, hl, p, rfl, hh, ⟨by omega, by omega⟩, fun ea n1 H1 lot1 na e1 kk1 h1 => ?_⟩
  have neh := (hh.ne2 na).1
  walk_at "r"
  refine (sA kk1).ix (k := 1) (v := .int q) rfl ?_
  walk_at "r"
  refine ⟨h, hl, q, rfl, h1, ⟨by omega, by omega⟩, fun wa n2 H2 lot2 nw e2 kk2 h2 => ?_⟩
  have nwh := (h1.ne2 nw).1
  have e1 := kk2 ea _ neh e1
  have kk2 := kk1.trans kk2
  walk_at "r"
  have ht1' : Jv.Sk K H2 (.ref ea) (n1.map V.int) := ⟨ea, rfl, .inl (Jv.sqL_at e1)⟩
  have ht2' : Jv.Sk K H2 (.ref wa) (n2.map V.int) := ⟨wa, rfl, .inl (Jv.sqL_at e2)⟩
  have l1 := lot_le lot1
  have l2 := lot_le lot2
  have wc := hw.cut lot1 lot2
  have hWA := wA kk2
  refine Jv.lcS2 (K := K) (N := []) (j := 14) (i := 7) rfl ht1' .nil ((cutL L n1 n2).map lineT) (by rw [List.length_map, List.length_map]; unfold cutL; rw [List.length_map]) (by rw [List.length_map]; omega) (fun i v e D1 H6 hi hv he s6 hN1 hD1 PP hP => ?_) (fun D1 ys H6 s6 hD1 eD1 dv1 _ => ?_)
  · obtain ⟨z, hz, rfl⟩ := Jv.map_at hv
    have hzb := lot1.1 z (List.mem_of_getElem? hz)
    have ee : e = lineT (n2.map fun w => cell L z w) := by
      unfold cutL at he
      rw [List.map_map, List.getElem?_map, hz] at he
      exact (Option.some.inj he).symm
    subst ee
    walk_at "r"
    refine Jv.lcS2 (K := K) (N := [D1]) (j := 17) (i := 8) rfl (ht2'.same s6) hN1 ((n2.map fun w => cell L z w).map fun ns => .tuple (ns.map .int)) (by rw [List.length_map, List.length_map, List.length_map]) (by rw [List.length_map]; omega) (fun i2 u e2' D2 H7 hi2 hu he2 s7 hN2 hD2 PP2 hP2 => ?_) (fun D2 ys2 H7 s7 hD2 eD2 dv2 _ => ?_)
    · obtain ⟨y, hy2, rfl⟩ := Jv.map_at hu
      have hyb := lot2.1 y (List.mem_of_getElem? hy2)
      have ee2 : e2' = .tuple ((cell L z y).map .int) := by
        rw [List.map_map, List.getElem?_map, hy2] at he2
        exact (Option.some.inj he2).symm
      subst ee2
      obtain ⟨line, a1, a2, a3, a4⟩ := hw.at (e := z) (f := y) (by omega) (by omega)
      obtain ⟨ws, skW, alW⟩ := hWA.sk rfl
      obtain ⟨wv1, b1, b2⟩ := alW.of (i := z.toNat) (d := lineT line) (by rw [List.getElem?_map, a1]; rfl)
      obtain ⟨us, skU, alU⟩ := b2.sk rfl
      obtain ⟨wv2, c1, c2⟩ := alU.of (i := y.toNat) (d := .tuple ((cell L z y).map .int)) (by rw [List.getElem?_map, a3]; rfl)
      have s67 := s6.trans s7
      walk_at "r"
      refine (skW.same s67).ix (Jv.at_i (by omega) b1) ?_
      walk_at "r"
      refine (skU.same s67).ix (Jv.at_i (by omega) c1) ?_
      refine hP2 _ _ (Same.refl _) ?_
      have c3 : Jv.Dv K (Jv.hide [] H2) wv2 (.tuple ((cell L z y).map .int)) := by rw [Jv.hide_nil]; exact c2
      exact (c3.same (Jv.hide_more s6 hD1)).same (Jv.hide_more s7 hD2)
    · walk_at "r"
      refine ⟨D2, _, rfl, .inl ⟨Jv.sqL_at eD2, fun t2 ht2 => ?_⟩⟩
      exact hP _ _ (s7.trans (Jv.same_new ht2)) (Jv.dv_new ht2 (hN1.same s7) dv2)
  walk_at "r"
  refine ⟨D1, _, rfl, .inl ⟨Jv.sqL_at eD1, fun t1 hT1 => ?_⟩⟩
  rw [Jv.hide_nil] at dv1
  have s27 := s6.trans (Jv.same_new (u := .tup ys) hT1)
  have due1 : Jv.Dv K (upd H6 t1 (.tup ys)) (.ref t1) (wantT (cutL L n1 n2)) := .tup (Jv.sqT_at upd_same) (dv1.same (Jv.same_new hT1))
  generalize upd H6 t1 (.tup ys) = H7 at s27 due1 ⊢
  have kk7 := kk2.trans (Jv.Kp.same (p := h) s27)
  have h7 := h2.same s27
  have e1 := s27 _ _ e1
  have e2 := s27 _ _ e2
  refine ⟨fun σ H' => ∃ y8 y9, σ = [some (.ref h), some (.ref a), some (.ref sa), some (.ref o), some (.int l), some wv, some kv, some (.ref ea), y8, y9, none, none, none, none, none, none, none, none] ∧ Jv.Kp h H H' ∧ Jv.Hand H' h hl ∧ H' ea = some (.lst (n1.map V.int)), ?_, ?_⟩
  · walk_at "r"
    refine ⟨wa, _, rfl, .inl ⟨Jv.sqL_at e2, fun t2 hT2 => ?_⟩⟩
    have s78 : Same H7 (upd H7 t2 (.tup (n2.map V.int))) := Jv.same_new hT2
    have eT2 : upd H7 t2 (.tup (n2.map V.int)) t2 = some (.tup (n2.map V.int)) := upd_same
    generalize upd H7 t2 (.tup (n2.map V.int)) = H8 at s78 eT2 ⊢
    have kk8 := kk7.trans (Jv.Kp.same (p := h) s78)
    walk_at "r"
    refine ⟨a, .ref ea, .ref t2, l, L, k0, k1, p, q, .list (n1.map .int), .tuple (n2.map .int), rfl, gA kk8, hw, .lst (s78 _ _ e1) (Jv.dv_ints _), few_of rfl (by rw [List.length_map]; omega), .tup (Jv.sqT_at eT2) (Jv.dv_ints _), few_of rfl (by rw [List.length_map]; omega), .inl ⟨n1, n2, rfl, lot1, rfl, lot2, fun r H9 s9 ga => ?_⟩⟩
    have s79 := s78.trans s9
    have kk9 := kk8.trans (Jv.Kp.same (p := h) s9)
    walk_at "r"
    refine ⟨r, l, cutL L n1 n2, k0, k1, _, _, .ref t1, kv, rfl, ga, wc, due1.same s79, kA kk9, fun HA sA1 => ?_⟩
    walk_at "r"
    exact ⟨_, _, rfl, kk9.trans (Jv.Kp.same (p := h) sA1), h7.same (s79.trans sA1), (s79.trans sA1) _ _ e1⟩
  rintro σ HA ⟨y8, y9, rfl, kkA, h9, e1⟩
  clear e2
  walk_at "r"
  -- seven that are no lot
  intro b1 hb1
  have m1 : upd HA b1 (.lst []) b1 = some (.lst []) := upd_same
  have sB1 : Same HA (upd HA b1 (.lst [])) := Jv.same_new hb1
  generalize upd HA b1 (.lst []) = HB1 at m1 sB1 ⊢
  walk_at "r"
  refine (sA (kkA.trans (Jv.Kp.same sB1))).ix (k := 0) (v := .int p) rfl ?_
  walk_at "r"
  intro b2 hb2
  have sB2 : Same HA (upd HB1 b2 (.lst [.int p])) := sB1.trans (Jv.same_new hb2)
  have m1 : upd HB1 b2 (.lst [.int p]) b1 = some (.lst []) := Jv.kp m1 hb2
  have m2 : upd HB1 b2 (.lst [.int p]) b2 = some (.lst [.int p]) := upd_same
  generalize upd HB1 b2 (.lst [.int p]) = HB2 at m1 m2 sB2 ⊢
  walk_at "r"
  intro b3 hb3
  have sB3 : Same HA (upd HB2 b3 (.lst [.int 0, .int 0])) := sB2.trans (Jv.same_new hb3)
  have m1 : upd HB2 b3 (.lst [.int 0, .int 0]) b1 = some (.lst []) := Jv.kp m1 hb3
  have m2 : upd HB2 b3 (.lst [.int 0, .int 0]) b2 = some (.lst [.int p]) := Jv.kp m2 hb3
  have m3 : upd HB2 b3 (.lst [.int 0, .int 0]) b3 = some (.lst [.int 0, .int 0]) := upd_same
  generalize upd HB2 b3 (.lst [.int 0, .int 0]) = HB3 at m1 m2 m3 sB3 ⊢
  walk_at "r"
  intro b4 hb4
  have sB4 : Same HA (upd HB3 b4 (.tup [.bl true])) := sB3.trans (Jv.same_new hb4)
  have m1 : upd HB3 b4 (.tup [.bl true]) b1 = some (.lst []) := Jv.kp m1 hb4
  have m2 : upd HB3 b4 (.tup [.bl true]) b2 = some (.lst [.int p]) := Jv.kp m2 hb4
  have m3 : upd HB3 b4 (.tup [.bl true]) b3 = some (.lst [.int 0, .int 0]) := Jv.kp m3 hb4
  have m4 : upd HB3 b4 (.tup [.bl true]) b4 = some (.tup [.bl true]) := upd_same
  generalize upd HB3 b4 (.tup [.bl true]) = HB4 at m1 m2 m3 m4 sB4 ⊢
  walk_at "r"
  intro b5 hb5
  have sB5 : Same HA (upd HB4 b5 (.lst [.int (-1), .int 0])) := sB4.trans (Jv.same_new hb5)
  have m1 : upd HB4 b5 (.lst [.int (-1), .int 0]) b1 = some (.lst []) := Jv.kp m1 hb5
  have m2 : upd HB4 b5 (.lst [.int (-1), .int 0]) b2 = some (.lst [.int p]) := Jv.kp m2 hb5
  have m3 : upd HB4 b5 (.lst [.int (-1), .int 0]) b3 = some (.lst [.int 0, .int 0]) := Jv.kp m3 hb5
  have m4 : upd HB4 b5 (.lst [.int (-1), .int 0]) b4 = some (.tup [.bl true]) := Jv.kp m4 hb5
  have m5 : upd HB4 b5 (.lst [.int (-1), .int 0]) b5 = some (.lst [.int (-1), .int 0]) := upd_same
  generalize upd HB4 b5 (.lst [.int (-1), .int 0]) = HB5 at m1 m2 m3 m4 m5 sB5 ⊢
  walk_at "r"
  intro b6 hb6
  have sB6 : Same HA (upd HB5 b6 (.lst [.int 1, .int 0])) := sB5.trans (Jv.same_new hb6)
  have m1 : upd HB5 b6 (.lst [.int 1, .int 0]) b1 = some (.lst []) := Jv.kp m1 hb6
  have m2 : upd HB5 b6 (.lst [.int 1, .int 0]) b2 = some (.lst [.int p]) := Jv.kp m2 hb6
  have m3 : upd HB5 b6 (.lst [.int 1, .int 0]) b3 = some (.lst [.int 0, .int 0]) := Jv.kp m3 hb6
  have m4 : upd HB5 b6 (.lst [.int 1, .int 0]) b4 = some (.tup [.bl true]) := Jv.kp m4 hb6
  have m5 : upd HB5 b6 (.lst [.int 1, .int 0]) b5 = some (.lst [.int (-1), .int 0]) := Jv.kp m5 hb6
  have m6 : upd HB5 b6 (.lst [.int 1, .int 0]) b6 = some (.lst [.int 1, .int 0]) := upd_same
  generalize upd HB5 b6 (.lst [.int 1, .int 0]) = HB6 at m1 m2 m3 m4 m5 m6 sB6 ⊢
  walk_at "r"
  intro b7 hb7
  have sB7 : Same HA (upd HB6 b7 (.lst [.ref b1, .ref b2, .ref b3, .non, .ref b4, .ref b5, .ref b6])) := sB6.trans (Jv.same_new hb7)
  have m1 : upd HB6 b7 (.lst [.ref b1, .ref b2, .ref b3, .non, .ref b4, .ref b5, .ref b6]) b1 = some (.lst []) := Jv.kp m1 hb7
  have m2 : upd HB6 b7 (.lst [.ref b1, .ref b2, .ref b3, .non, .ref b4, .ref b5, .ref b6]) b2 = some (.lst [.int p]) := Jv.kp m2 hb7
  have m3 : upd HB6 b7 (.lst [.ref b1, .ref b2, .ref b3, .non, .ref b4, .ref b5, .ref b6]) b3 = some (.lst [.int 0, .int 0]) := Jv.kp m3 hb7
  have m4 : upd HB6 b7 (.lst [.ref b1, .ref b2, .ref b3, .non, .ref b4, .ref b5, .ref b6]) b4 = some (.tup [.bl true]) := Jv.kp m4 hb7
  have m5 : upd HB6 b7 (.lst [.ref b1, .ref b2, .ref b3, .non, .ref b4, .ref b5, .ref b6]) b5 = some (.lst [.int (-1), .int 0]) := Jv.kp m5 hb7
  have m6 : upd HB6 b7 (.lst [.ref b1, .ref b2, .ref b3, .non, .ref b4, .ref b5, .ref b6]) b6 = some (.lst [.int 1, .int 0]) := Jv.kp m6 hb7
  have m7 : upd HB6 b7 (.lst [.ref b1, .ref b2, .ref b3, .non, .ref b4, .ref b5, .ref b6]) b7 = some (.lst [.ref b1, .ref b2, .ref b3, .non, .ref b4, .ref b5, .ref b6]) := upd_same
  have h9B := h9.same sB7
  generalize upd HB6 b7 (.lst [.ref b1, .ref b2, .ref b3, .non, .ref b4, .ref b5, .ref b6]) = HB7 at m1 m2 m3 m4 m5 m6 m7 sB7 h9B ⊢
  have kkB := kkA.trans (Jv.Kp.same (p := h) sB7)
  have e1 := sB7 _ _ e1
  walk_at "r"
  refine ⟨h, hl, _, rfl, h9B, ⟨by decide, Jv.log_small (by decide) (by decide)⟩, fun z HC z0 z1 kC hC => ?_⟩
  have notL : ∀ {b : Addr} {xs : List V}, HB7 b = some (.lst xs) → xs.length ≠ 4 → b ≠ h := fun {b xs} e nl eh => by
    obtain ⟨ns, c1, c2, c3, hAt⟩ := h9B
    rw [eh, hAt.hp] at e
    cases e
    exact nl rfl
  have notT : ∀ {b : Addr} {xs : List V}, HB7 b = some (.tup xs) → b ≠ h := fun {b xs} e eh => by
    obtain ⟨ns, c1, c2, c3, hAt⟩ := h9B
    rw [eh, hAt.hp] at e
    cases e
  have m7 := kC _ _ (notL m7 (by simp)) m7
  have hbad : ∃ v d, atI [V.ref b1, .ref b2, .ref b3, .non, .ref b4, .ref b5, .ref b6] z = some v ∧ Jv.Dv K HC v d ∧ few60 d ∧ lotD p d = false := by
    have hz : z = 0 ∨ z = 1 ∨ z = 2 ∨ z = 3 ∨ z = 4 ∨ z = 5 ∨ z = 6 := by omega
    rcases hz with rfl | rfl | rfl | rfl | rfl | rfl | rfl
    · exact ⟨_, _, rfl, .lst (kC _ _ (notL m1 (by simp)) m1) .nil, few_of rfl (by simp), lot_bad (ns := []) rfl fun hh => absurd hh.2.1 (by simp)⟩
    · exact ⟨_, _, rfl, .lst (kC _ _ (notL m2 (by simp)) m2) (.cons (.int _) .nil), few_of rfl (by simp), lot_bad (ns := [(p : Int)]) rfl fun hh => by have := hh.1 p (by simp); omega⟩
    · exact ⟨_, _, rfl, .lst (kC _ _ (notL m3 (by simp)) m3) (.cons (.int _) (.cons (.int _) .nil)), few_of rfl (by simp), lot_bad (ns := [0, 0]) rfl fun hh => by have := hh.2.2; simp at this⟩
    · exact ⟨_, _, rfl, .non, few_none rfl, rfl⟩
    · exact ⟨_, _, rfl, .tup (Jv.sqT_at (kC _ _ (notT m4) m4)) (.cons (.bl _) .nil), few_of rfl (by simp), rfl⟩
    · exact ⟨_, _, rfl, .lst (kC _ _ (notL m5 (by simp)) m5) (.cons (.int _) (.cons (.int _) .nil)), few_of rfl (by simp), lot_bad (ns := [-1, 0]) rfl fun hh => by have := hh.1 (-1) (by simp); omega⟩
    · exact ⟨_, _, rfl, .lst (kC _ _ (notL m6 (by simp)) m6) (.cons (.int _) (.cons (.int _) .nil)), few_of rfl (by simp), lot_bad (ns := [1, 0]) rfl fun hh => by have := hh.2.2; simp at this⟩
  obtain ⟨bad, bd, ebad, dbad, fbad, lbad⟩ := hbad
  have kkC := kkB.trans kC
  have e1 := kC ea _ neh e1
  refine Jv.r_ixL (Jv.sqL_at m7) ebad ?_
  walk_at "r"
  refine ⟨fun σ H' => ∃ y7 y8 y9 y10, σ = [some (.ref h), some (.ref a), some (.ref sa), some (.ref o), some (.int l), some wv, some kv, y7, y8, y9, y10, none, none, none, none, none, none, none] ∧ Jv.Kp h H H' ∧ Jv.Hand H' h hl, ?_, ?_⟩
  · walk_at "r"
    intro c1 hc1
    have sC1 : Same HC (upd HC c1 (.lst [.int 9])) := Jv.same_new hc1
    have mc1 : upd HC c1 (.lst [.int 9]) c1 = some (.lst [.int 9]) := upd_same
    generalize upd HC c1 (.lst [.int 9]) = HD at sC1 mc1 ⊢
    have kkD := kkC.trans (Jv.Kp.same (p := h) sC1)
    walk_at "r"
    refine ⟨a, bad, .ref c1, l, L, k0, k1, p, q, bd, .list [.int 9], rfl, gA kkD, hw, dbad.same sC1, fbad, .lst mc1 (.cons (.int _) .nil), few_of rfl (by simp), .inr (.inl ⟨lbad, fun r1 HE sE er1 => ?_⟩)⟩
    walk_at "r"
    intro c2 hc2
    walk_at "r"
    refine word_lot0.ne (Jv.kp er1 hc2) upd_same ?_
    walk_at "r"
    have sCF : Same HC (upd HE c2 (.lst [.str "lot", .int 0])) := (sC1.trans sE).trans (Jv.same_new hc2)
    generalize upd HE c2 (.lst [.str "lot", .int 0]) = HF at sCF ⊢
    have kkF := kkC.trans (Jv.Kp.same (p := h) sCF)
    have e1 := sCF _ _ e1
    refine (sA kkF).ix (k := 1) (v := .int q) rfl ?_
    walk_at "r"
    intro c3 hc3
    have sF3 : Same HF (upd HF c3 (.lst [.int q])) := Jv.same_new hc3
    have mc3 : upd HF c3 (.lst [.int q]) c3 = some (.lst [.int q]) := upd_same
    generalize upd HF c3 (.lst [.int q]) = HG at sF3 mc3 ⊢
    have kkG := kkF.trans (Jv.Kp.same (p := h) sF3)
    walk_at "r"
    refine ⟨a, .ref ea, .ref c3, l, L, k0, k1, p, q, .list (n1.map .int), .list [.int q], rfl, gA kkG, hw, .lst (sF3 _ _ e1) (Jv.dv_ints _), few_of rfl (by rw [List.length_map]; omega), .lst mc3 (.cons (.int _) .nil), few_of rfl (by simp), .inr (.inr ⟨n1, rfl, lot1, lot_bad (ns := [(q : Int)]) rfl (fun hh => by have := hh.1 q (by simp); omega), fun r2 HI sI er2 => ?_⟩)⟩
    walk_at "r"
    intro c4 hc4
    walk_at "r"
    refine word_lot1.ne (Jv.kp er2 hc4) upd_same ?_
    walk_at "r"
    have sCJ : Same HC (upd HI c4 (.lst [.str "lot", .int 1])) := ((sCF.trans sF3).trans sI).trans (Jv.same_new hc4)
    generalize upd HI c4 (.lst [.str "lot", .int 1]) = HJ at sCJ ⊢
    exact ⟨_, _, _, _, rfl, kkC.trans (Jv.Kp.same (p := h) sCJ), hC.same sCJ⟩
  rintro σ HJ ⟨y7, y8, y9, y10, rfl, kkJ, hJ⟩
  walk_at "r"
  -- orders
  refine (sA kkJ).ix (k := 0) (v := .int p) rfl ?_
  walk_at "r"
  refine ⟨h, hl, p, rfl, hJ, ⟨by omega, by omega⟩, fun oa o1 HK pm1 no eo kK hK1 => ?_⟩
  have noh := (hJ.ne2 no).1
  have ord1 := order_of pm1
  have lo1 := order_len ord1
  have kkK := kkJ.trans kK
  walk_at "r"
  have skO : Jv.Sk K HK (.ref oa) (o1.map V.int) := ⟨oa, rfl, .inl (Jv.sqL_at eo)⟩
  have hWK := wA kkK
  have wr1 := hw.rows ord1
  refine Jv.lcS2 (K := K) (N := []) (j := 15) (i := 11) rfl skO .nil ((rowL L o1).map lineT) (by rw [List.length_map, List.length_map]; unfold rowL; rw [List.length_map]) (by rw [List.length_map]; omega) (fun i v e D1 H6 hi hv he s6 hN1 hD1 PP hP => ?_) (fun D1 ys H6 s6 hD1 eD1 dv1 _ => ?_)
  · obtain ⟨z, hz, rfl⟩ := Jv.map_at hv
    have hzb := ord1.1 z (List.mem_of_getElem? hz)
    have hzL : z.toNat < L.length := by omega
    have ee : e = lineT L[z.toNat] := by
      unfold rowL at he
      rw [List.map_map, List.getElem?_map, hz] at he
      have := (Option.some.inj he).symm
      rw [this]
      show lineT ((L[z.toNat]?).getD []) = _
      rw [List.getElem?_eq_getElem hzL]; rfl
    subst ee
    obtain ⟨ws, skW, alW⟩ := hWK.sk rfl
    obtain ⟨wv1, c1, c2⟩ := alW.of (i := z.toNat) (d := lineT L[z.toNat]) (by rw [List.getElem?_map, List.getElem?_eq_getElem hzL]; rfl)
    walk_at "r"
    refine (skW.same s6).ix (Jv.at_i (by omega) c1) ?_
    refine hP _ _ (Same.refl _) ?_
    have c3 : Jv.Dv K (Jv.hide [] HK) wv1 (lineT L[z.toNat]) := by rw [Jv.hide_nil]; exact c2
    exact c3.same (Jv.hide_more s6 hD1)
  walk_at "r"
  refine ⟨D1, _, rfl, .inl ⟨Jv.sqL_at eD1, fun t3 hT3 => ?_⟩⟩
  rw [Jv.hide_nil] at dv1
  have sKL := s6.trans (Jv.same_new (u := .tup ys) hT3)
  have due2 : Jv.Dv K (upd H6 t3 (.tup ys)) (.ref t3) (wantT (rowL L o1)) := .tup (Jv.sqT_at upd_same) (dv1.same (Jv.same_new hT3))
  generalize upd H6 t3 (.tup ys) = HL at sKL due2 ⊢
  have kkL := kkK.trans (Jv.Kp.same (p := h) sKL)
  refine ⟨fun σ H' => ∃ y7 y8 y9 y10, σ = [some (.ref h), some (.ref a), some (.ref sa), some (.ref o), some (.int l), some wv, some kv, y7, y8, y9, y10, some (.ref oa), none, none, none, none, none, none] ∧ Jv.Kp h H H' ∧ Jv.Hand H' h hl ∧ H' oa = some (.lst (o1.map V.int)), ?_, ?_⟩
  · walk_at "r"
    refine ⟨a, .int 0, .ref oa, l, L, k0, k1, p, q, .int 0, .list (o1.map .int), rfl, gA kkL, hw, .int _, .lst (sKL _ _ eo) (Jv.dv_ints _), few_of rfl (by rw [List.length_map]; omega), .inl ⟨o1, rfl, rfl, ord1, fun r3 HM sM ga3 => ?_⟩⟩
    walk_at "r"
    refine ⟨r3, l, rowL L o1, k0, k1, _, _, .ref t3, kv, rfl, ga3, wr1, due2.same sM, kA (kkL.trans (Jv.Kp.same sM)), fun HN sN => ?_⟩
    have sKN := (sKL.trans sM).trans sN
    walk_at "r"
    exact ⟨_, _, _, _, rfl, kkK.trans (Jv.Kp.same (p := h) sKN), hK1.same sKN, sKN _ _ eo⟩
  rintro σ HN ⟨y7, y8, y9, y10, rfl, kkN, hN, eo⟩
  walk_at "r"
  refine (sA kkN).ix (k := 1) (v := .int q) rfl ?_
  walk_at "r"
  refine ⟨h, hl, q, rfl, hN, ⟨by omega, by omega⟩, fun ta o2 HO pm2 nt et kO hO => ?_⟩
  have nth := (hN.ne2 nt).1
  have ord2 := order_of pm2
  have lo2 := order_len ord2
  have kkO := kkN.trans kO
  have eo := kO oa _ noh eo
  walk_at "r"
  have skT : Jv.Sk K HO (.ref ta) (o2.map V.int) := ⟨ta, rfl, .inl (Jv.sqL_at et)⟩
  have hWO := wA kkO
  have wr2 := hw.cols ord2
  obtain ⟨ws2, skW2, alW2⟩ := hWO.sk rfl
  have lws2 := alW2.len
  rw [List.length_map] at lws2
  refine Jv.lcS2 (K := K) (N := []) (j := 16) (i := 5) rfl skW2 .nil ((colL L o2).map lineT) (by rw [List.length_map]; unfold colL; rw [List.length_map]; omega) (by omega) (fun i v e D1 H6 hi hv he s6 hN1 hD1 PP hP => ?_) (fun D1 ys H6 s6 hD1 eD1 dv1 _ => ?_)
  · obtain ⟨dl, c1, c2⟩ := alW2.at hv
    rw [List.getElem?_map] at c1
    obtain ⟨line, c3, rfl⟩ := Option.map_eq_some_iff.mp c1
    have hline := List.mem_of_getElem? c3
    have hlq := hw.hq line hline
    have ee : e = lineT (o2.map fun w => (line[w.toNat]?).getD []) := by
      unfold colL at he
      rw [List.map_map, List.getElem?_map, c3] at he
      exact (Option.some.inj he).symm
    subst ee
    walk_at "r"
    refine Jv.lcS2 (K := K) (N := [D1]) (j := 15) (i := 12) rfl (skT.same s6) hN1 ((o2.map fun w => (line[w.toNat]?).getD []).map fun ns => .tuple (ns.map .int)) (by rw [List.length_map, List.length_map, List.length_map]) (by rw [List.length_map]; omega) (fun i2 u e2' D2 H7 hi2 hu he2 s7 hN2 hD2 PP2 hP2 => ?_) (fun D2 ys2 H7 s7 hD2 eD2 dv2 _ => ?_)
    · obtain ⟨y, hy2, rfl⟩ := Jv.map_at hu
      have hyb := ord2.1 y (List.mem_of_getElem? hy2)
      have hyL : y.toNat < line.length := by omega
      have ee2 : e2' = .tuple (line[y.toNat].map .int) := by
        rw [List.map_map, List.getElem?_map, hy2] at he2
        have := (Option.some.inj he2).symm
        rw [this]
        show PyData.tuple (((line[y.toNat]?).getD []).map .int) = _
        rw [List.getElem?_eq_getElem hyL]; rfl
      subst ee2
      have c2h : Jv.Dv K (Jv.hide [] HO) v (lineT line) := by rw [Jv.hide_nil]; exact c2
      obtain ⟨us2, skU2, alU2⟩ := (c2h.same (Jv.hide_more s6 hD1)).sk rfl
      obtain ⟨wv2, d1, d2⟩ := alU2.of (i := y.toNat) (d := .tuple (line[y.toNat].map .int)) (by rw [List.getElem?_map, List.getElem?_eq_getElem hyL]; rfl)
      walk_at "r"
      refine (skU2.same ((Jv.hide_le).trans s7)).ix (Jv.at_i (by omega) d1) ?_
      exact hP2 _ _ (Same.refl _) (d2.same (Jv.hide_more s7 hD2))
    · walk_at "r"
      refine ⟨D2, _, rfl, .inl ⟨Jv.sqL_at eD2, fun t2 ht2 => ?_⟩⟩
      exact hP _ _ (s7.trans (Jv.same_new ht2)) (Jv.dv_new ht2 (hN1.same s7) dv2)
  walk_at "r"
  refine ⟨D1, _, rfl, .inl ⟨Jv.sqL_at eD1, fun t4 hT4 => ?_⟩⟩
  rw [Jv.hide_nil] at dv1
  have sOP := s6.trans (Jv.same_new (u := .tup ys) hT4)
  have due3 : Jv.Dv K (upd H6 t4 (.tup ys)) (.ref t4) (wantT (colL L o2)) := .tup (Jv.sqT_at upd_same) (dv1.same (Jv.same_new hT4))
  generalize upd H6 t4 (.tup ys) = HP at sOP due3 ⊢
  have kkP := kkO.trans (Jv.Kp.same (p := h) sOP)
  have et := sOP _ _ et
  have eo := sOP _ _ eo
  refine ⟨fun σ H' => ∃ y7 y8 y9 y10, σ = [some (.ref h), some (.ref a), some (.ref sa), some (.ref o), some (.int l), some wv, some kv, y7, y8, y9, y10, some (.ref oa), some (.ref ta), none, none, none, none, none] ∧ Jv.Kp h H H' ∧ Jv.Hand H' h hl ∧ H' oa = some (.lst (o1.map V.int)) ∧ H' ta = some (.lst (o2.map V.int)), ?_, ?_⟩
  · walk_at "r"
    refine ⟨ta, _, rfl, .inl ⟨Jv.sqL_at et, fun t5 hT5 => ?_⟩⟩
    have sPQ : Same HP (upd HP t5 (.tup (o2.map V.int))) := Jv.same_new hT5
    have eT5 : upd HP t5 (.tup (o2.map V.int)) t5 = some (.tup (o2.map V.int)) := upd_same
    generalize upd HP t5 (.tup (o2.map V.int)) = HQ at sPQ eT5 ⊢
    have kkQ := kkP.trans (Jv.Kp.same (p := h) sPQ)
    walk_at "r"
    refine ⟨a, .int 1, .ref t5, l, L, k0, k1, p, q, .int 1, .tuple (o2.map .int), rfl, gA kkQ, hw, .int _, .tup (Jv.sqT_at eT5) (Jv.dv_ints _), few_of rfl (by rw [List.length_map]; omega), .inr (.inl ⟨o2, rfl, rfl, ord2, fun r4 HR sR ga4 => ?_⟩)⟩
    have sPR := sPQ.trans sR
    walk_at "r"
    refine ⟨r4, l, colL L o2, k0, k1, _, _, .ref t4, kv, rfl, ga4, wr2, due3.same sPR, kA (kkP.trans (Jv.Kp.same sPR)), fun HS sS => ?_⟩
    have sPS := sPR.trans sS
    walk_at "r"
    exact ⟨_, _, _, _, rfl, kkP.trans (Jv.Kp.same (p := h) sPS), hO.same (sOP.trans sPS), sPS _ _ eo, sPS _ _ et⟩
  rintro σ HS ⟨y7, y8, y9, y10, rfl, kkS, hS, eo, et⟩
  walk_at "r"
  -- four that are no order
  intro x1 hx1
  walk_at "r"
  refine ⟨oa, x1, o1.map V.int, [.int 0], rfl, rfl, Jv.kp eo hx1, upd_same, Jv.small_of (by simp; omega), fun x2 hx2 => ?_⟩
  have sS2 : Same HS (upd (upd HS x1 (.lst [.int 0])) x2 (.lst (o1.map V.int ++ [.int 0]))) := (Jv.same_new hx1).trans (Jv.same_new hx2)
  have y2 : upd (upd HS x1 (.lst [.int 0])) x2 (.lst (o1.map V.int ++ [.int 0])) x2 = some (.lst ((o1 ++ [0]).map V.int)) := by rw [upd_same, List.map_append]; rfl
  generalize upd (upd HS x1 (.lst [.int 0])) x2 (.lst (o1.map V.int ++ [.int 0])) = HT at sS2 y2 ⊢
  have cut : cutV (o1.map V.int) (some 1) none = (o1.drop 1).map V.int := cut1 (by rw [List.length_map]; omega)
  walk_at "r"
  have eo2 := sS2 _ _ eo
  refine r_sl1 ?_
  walk_at "r"
  refine ⟨1, rfl, oa, _, rfl, Jv.sqL_at eo2, fun x3 hx3 => ?_⟩
  rw [cut]
  have sS3 := sS2.trans (Jv.same_new (u := .lst ((o1.drop 1).map V.int)) hx3)
  have y2 : upd HT x3 (.lst ((o1.drop 1).map V.int)) x2 = some (.lst ((o1 ++ [0]).map V.int)) := Jv.kp y2 hx3
  have y3 : upd HT x3 (.lst ((o1.drop 1).map V.int)) x3 = some (.lst ((o1.drop 1).map V.int)) := upd_same
  generalize upd HT x3 (.lst ((o1.drop 1).map V.int)) = HU at sS3 y2 y3 ⊢
  have eo3 := sS3 _ _ eo
  obtain ⟨zo, ro, eqo⟩ : ∃ z r, o1 = z :: r := by
    cases o1 with
    | nil => simp at lo1; omega
    | cons z r => exact ⟨z, r, rfl⟩
  have skO3 : Jv.Sk K HU (.ref oa) (o1.map V.int) := ⟨oa, rfl, .inl (Jv.sqL_at eo3)⟩
  walk_at "r"
  refine skO3.ix (k := 0) (v := .int zo) (Jv.at_i (by decide) (by rw [eqo]; rfl)) ?_
  walk_at "r"
  refine r_ifR (fun v H1 => ∃ x6 c, v = .ref x6 ∧ Same HU H1 ∧ H1 x6 = some (.lst (c.map V.int)) ∧ c.length ≤ 60 ∧ ¬ Jv.orderP p c) (fun v HV hR => ?_) (fun hc Q1 hQ => ?_) (fun hc Q1 hQ => ?_)
  · obtain ⟨x6, c, rfl, sUV, y6, lc, noc⟩ := hR
    have y2 := sUV _ _ y2
    have y3 := sUV _ _ y3
    have sSV := sS3.trans sUV
    walk_at "r"
    intro x8 hx8
    have sS8 := sSV.trans (Jv.same_new (u := .lst [.ref x2, .ref x3, .ref x6, .non]) hx8)
    have y2 : upd HV x8 (.lst [.ref x2, .ref x3, .ref x6, .non]) x2 = some (.lst ((o1 ++ [0]).map V.int)) := Jv.kp y2 hx8
    have y3 : upd HV x8 (.lst [.ref x2, .ref x3, .ref x6, .non]) x3 = some (.lst ((o1.drop 1).map V.int)) := Jv.kp y3 hx8
    have y6 : upd HV x8 (.lst [.ref x2, .ref x3, .ref x6, .non]) x6 = some (.lst (c.map V.int)) := Jv.kp y6 hx8
    have y8 : upd HV x8 (.lst [.ref x2, .ref x3, .ref x6, .non]) x8 = some (.lst [.ref x2, .ref x3, .ref x6, .non]) := upd_same
    generalize upd HV x8 (.lst [.ref x2, .ref x3, .ref x6, .non]) = HX at sS8 y2 y3 y6 y8 ⊢
    have hX := hS.same sS8
    walk_at "r"
    refine ⟨h, hl, _, rfl, hX, ⟨by decide, Jv.log_small (by decide) (by decide)⟩, fun z HY z0 z1 kY hY => ?_⟩
    have notI : ∀ {b : Addr} {ns : List Int}, HX b = some (.lst (ns.map V.int)) → b ≠ h := fun {b ns} e eh => by
      obtain ⟨ms, c1, c2, c3, hAt⟩ := hX
      rw [eh, hAt.hp] at e
      cases ns with
      | nil => cases e
      | cons u r => cases e
    have n8 : x8 ≠ h := fun eh => by
      obtain ⟨ms, c1, c2, c3, hAt⟩ := hX
      rw [eh, hAt.hp] at y8
      cases y8
    have y8 := kY _ _ n8 y8
    have hbad : ∃ v d, atI [V.ref x2, .ref x3, .ref x6, .non] z = some v ∧ Jv.Dv K HY v d ∧ few60 d ∧ orderD p d = false := by
      have hz : z = 0 ∨ z = 1 ∨ z = 2 ∨ z = 3 := by omega
      rcases hz with rfl | rfl | rfl | rfl
      · exact ⟨_, _, rfl, .lst (kY _ _ (notI y2) y2) (Jv.dv_ints _), few_of rfl (by rw [List.length_map, List.length_append]; simp; omega), order_bad rfl (no_order_len (by rw [List.length_append]; simp; omega))⟩
      · exact ⟨_, _, rfl, .lst (kY _ _ (notI y3) y3) (Jv.dv_ints _), few_of rfl (by rw [List.length_map, List.length_drop]; omega), order_bad rfl (no_order_len (by rw [List.length_drop]; omega))⟩
      · exact ⟨_, _, rfl, .lst (kY _ _ (notI y6) y6) (Jv.dv_ints _), few_of rfl (by rw [List.length_map]; omega), order_bad rfl noc⟩
      · exact ⟨_, _, rfl, .non, few_none rfl, rfl⟩
    obtain ⟨bent, bd, eb, db, fb, lb⟩ := hbad
    have kkY := (kkS.trans (Jv.Kp.same (p := h) sS8)).trans kY
    have et := kY ta _ nth (sS8 _ _ et)
    have etY := et
    refine Jv.r_ixL (Jv.sqL_at y8) eb ?_
    walk_at "r"
    refine ⟨a, .int 0, bent, l, L, k0, k1, p, q, .int 0, bd, rfl, gA kkY, hw, .int _, db, fb, .inr (.inr (.inr (.inl ⟨rfl, lb, fun r5 HZ sZ er5 => ?_⟩)))⟩
    walk_at "r"
    intro u1 hu1
    walk_at "r"
    refine word_lot0.ne (Jv.kp er5 hu1) upd_same ?_
    have sYA := sZ.trans (Jv.same_new (u := .lst [.str "lot", .int 0]) hu1)
    generalize upd HZ u1 (.lst [.str "lot", .int 0]) = IA at sYA ⊢
    have kkIA := kkY.trans (Jv.Kp.same (p := h) sYA)
    walk_at "r"
    refine ⟨a, .int 2, bent, l, L, k0, k1, p, q, .int 2, bd, rfl, gA kkIA, hw, .int _, db.same sYA, fb, .inr (.inr (.inl ⟨rfl, fun r6 IB sB6 er6 => ?_⟩))⟩
    walk_at "r"
    intro u2 hu2
    walk_at "r"
    refine word_side.ne (Jv.kp er6 hu2) upd_same ?_
    have sYC := (sYA.trans sB6).trans (Jv.same_new (u := .lst [.str "side"]) hu2)
    generalize upd IB u2 (.lst [.str "side"]) = IC at sYC ⊢
    have kkIC := kkY.trans (Jv.Kp.same (p := h) sYC)
    have et := sYC _ _ et
    walk_at "r"
    intro u3 hu3
    rw [List.length_map, lo2]
    have etd := Jv.kp (u := .lst [.int q]) et hu3
    walk_at "r"
    refine ⟨ta, u3, o2.map V.int, [.int q], rfl, rfl, etd, upd_same, Jv.small_of (by simp; omega), fun u4 hu4 => ?_⟩
    have sYD := (sYC.trans (Jv.same_new (u := .lst [.int q]) hu3)).trans (Jv.same_new (u := .lst (o2.map V.int ++ [.int q])) hu4)
    have v4 : upd (upd IC u3 (.lst [.int q])) u4 (.lst (o2.map V.int ++ [.int q])) u4 = some (.lst ((o2 ++ [(q : Int)]).map V.int)) := by rw [upd_same, List.map_append]; rfl
    generalize upd (upd IC u3 (.lst [.int q])) u4 (.lst (o2.map V.int ++ [.int q])) = ID at sYD v4 ⊢
    have kkID := kkY.trans (Jv.Kp.same (p := h) sYD)
    walk_at "r"
    refine ⟨a, .int 1, .ref u4, l, L, k0, k1, p, q, .int 1, _, rfl, gA kkID, hw, .int _, .lst v4 (Jv.dv_ints _), few_of rfl (by rw [List.length_map, List.length_append]; simp; omega), .inr (.inr (.inr (.inr ⟨rfl, order_bad (ns := o2 ++ [(q : Int)]) rfl (no_order_len (by rw [List.length_append]; simp; omega)), fun r7 IE sE7 er7 => ?_⟩)))⟩
    walk_at "r"
    intro u5 hu5
    walk_at "r"
    refine word_lot1.eq (Jv.kp er7 hu5) upd_same ?_
    have sYF := (sYD.trans sE7).trans (Jv.same_new (u := .lst [.str "lot", .int 1]) hu5)
    generalize upd IE u5 (.lst [.str "lot", .int 1]) = IF at sYF ⊢
    have kkIF := kkY.trans (Jv.Kp.same (p := h) sYF)
    have etF : IF ta = some (.lst (o2.map V.int)) := sYF _ _ etY
    walk_at "r"
    refine ⟨a, .bl true, .ref ta, l, L, k0, k1, p, q, .bool true, _, rfl, gA kkIF, hw, .bl _, .lst etF (Jv.dv_ints _), few_of rfl (by rw [List.length_map]; omega), .inr (.inr (.inl ⟨rfl, fun r8 IG sG8 er8 => ?_⟩))⟩
    walk_at "r"
    intro u6 hu6
    walk_at "r"
    refine word_side.eq (Jv.kp er8 hu6) upd_same ?_
    have sYH := (sYF.trans sG8).trans (Jv.same_new (u := .lst [.str "side"]) hu6)
    exact k _ (kkY.trans (Jv.Kp.same (p := h) sYH)) (hY.same sYH)
  · have hzo : zo ≠ 0 := fun e => by subst e; simp at hc
    walk_at "r"
    intro x4 hx4
    walk_at "r"
    refine r_sl1 ?_
    walk_at "r"
    refine ⟨1, rfl, oa, _, rfl, Jv.sqL_at (Jv.kp eo3 hx4), fun x5 hx5 => ?_⟩
    rw [cut]
    have z4 : upd (upd HU x4 (.lst [.int 0])) x5 (.lst ((o1.drop 1).map V.int)) x4 = some (.lst [.int 0]) := Jv.kp upd_same hx5
    have z5 : upd (upd HU x4 (.lst [.int 0])) x5 (.lst ((o1.drop 1).map V.int)) x5 = some (.lst ((o1.drop 1).map V.int)) := upd_same
    have sU5 : Same HU (upd (upd HU x4 (.lst [.int 0])) x5 (.lst ((o1.drop 1).map V.int))) := (Jv.same_new hx4).trans (Jv.same_new hx5)
    generalize upd (upd HU x4 (.lst [.int 0])) x5 (.lst ((o1.drop 1).map V.int)) = HU5 at z4 z5 sU5 ⊢
    refine ⟨x4, x5, [.int 0], (o1.drop 1).map V.int, rfl, rfl, z4, z5, Jv.small_of (by simp; omega), fun x6 hx6 => ?_⟩
    refine hQ _ _ ⟨x6, 0 :: ro, rfl, sU5.trans (Jv.same_new hx6), by rw [upd_same, eqo]; rfl, ?_, ?_⟩
    · rw [eqo] at lo1; simp at lo1; simp; omega
    · rw [eqo] at ord1; exact no_order_twice ord1 hzo
  · walk_at "r"
    refine ⟨oa, oa, o1.map V.int, o1.map V.int, rfl, rfl, eo3, eo3, Jv.small_of (by simp; omega), fun x6 hx6 => ?_⟩
    refine hQ _ _ ⟨x6, o1 ++ o1, rfl, Jv.same_new hx6, by rw [upd_same, List.map_append], by rw [List.length_append]; omega, no_order_len (by rw [List.length_append]; omega)⟩
end
end K04

namespace K04
open PySem PySem.Spec PyProof.Rows L2
/-! ### what stays beside the hand -/
section
variable {K : PySem.W.Frag} {H H' : Hp} {h hl : Addr}
theorem sqT_hide {b : Addr} {xs : List V} {ys : List V} (hh : H h = some (.lst ys)) (s : SqT K H b xs) : SqT K (Jv.hide [h] H) b xs := by
  rcases s with (s | ⟨u, s⟩) | s
  · exact .inl (.inl (Jv.hide_one (fun e => by rw [e, hh] at s; cases s) s))
  · exact .inl (.inr ⟨u, Jv.hide_one (fun e => by rw [e, hh] at s; cases s) s⟩)
  · exact .inr s
theorem ints_any {H1 H2 : Hp} : ∀ {vs : List V} {ns : List Int}, Jv.DvAll K H1 vs (ns.map PyData.int) → Jv.DvAll K H2 vs (ns.map PyData.int)
  | _, [], .nil => .nil
  | _, _ :: _, .cons (.int _) r => .cons (.int _) (ints_any r)
theorem cells_hide {ys : List V} (hh : H h = some (.lst ys)) : ∀ {vs : List V} {line : List (List Int)}, Jv.DvAll K H vs (line.map fun ns => PyData.tuple (ns.map .int)) → Jv.DvAll K (Jv.hide [h] H) vs (line.map fun ns => PyData.tuple (ns.map .int))
  | _, [], .nil => .nil
  | _, _ :: _, .cons (.tup s q) r => .cons (.tup (sqT_hide hh s) (ints_any q)) (cells_hide hh r)
theorem lines_hide {ys : List V} (hh : H h = some (.lst ys)) : ∀ {vs : List V} {L : List (List (List Int))}, Jv.DvAll K H vs (L.map lineT) → Jv.DvAll K (Jv.hide [h] H) vs (L.map lineT)
  | _, [], .nil => .nil
  | _, _ :: _, .cons (.tup s q) r => .cons (.tup (sqT_hide hh s) (cells_hide hh q)) (lines_hide hh r)
theorem want_hide {ys : List V} {v : V} {L : List (List (List Int))} (hh : H h = some (.lst ys)) (d : Jv.Dv K H v (wantT L)) : Jv.Dv K (Jv.hide [h] H) v (wantT L) := by
  cases d with
  | tup s q => exact .tup (sqT_hide hh s) (lines_hide hh q)
theorem bb_hide {ys : List V} {v : V} {a b : Bool} (hh : H h = some (.lst ys)) (d : Jv.Dv K H v (.tuple [.bool a, .bool b])) : Jv.Dv K (Jv.hide [h] H) v (.tuple [.bool a, .bool b]) := by
  cases d with
  | tup s q =>
    cases q with
    | cons q1 q2 =>
      cases q1
      cases q2 with
      | cons q1 q2 =>
        cases q1
        cases q2
        exact .tup (sqT_hide hh s) (.cons (.bl _) (.cons (.bl _) .nil))
theorem ii_hide {ys : List V} {v : V} {a b : Int} (hh : H h = some (.lst ys)) (d : Jv.Dv K H v (.tuple [.int a, .int b])) : Jv.Dv K (Jv.hide [h] H) v (.tuple [.int a, .int b]) := by
  cases d with
  | tup s q => exact .tup (sqT_hide hh s) (ints_any (ns := [a, b]) q)
theorem GAt.hid {C a : Addr} {l : Int} {L : List (List (List Int))} {k0 k1 : Bool} {p q : Int} {ys : List V} (hh : H h = some (.lst ys)) (g : GAt K H C a l (wantT L) k0 k1 p q) : GAt K (Jv.hide [h] H) C a l (wantT L) k0 k1 p q := by
  obtain ⟨dx, w, k, t, h1, h2, h3, h4⟩ := g
  exact ⟨dx, w, k, t, Jv.hide_one (fun e => by rw [e, hh] at h1; cases h1) h1, want_hide hh h2, bb_hide hh h3, ii_hide hh h4⟩
theorem _root_.Jv.Hand.lst (x : Jv.Hand H h hl) : ∃ ys, H h = some (.lst ys) := by
  obtain ⟨ns, k, c, t, hA⟩ := x
  exact ⟨_, hA.hp⟩
theorem _root_.Jv.Hand.neT {b : Addr} {xs : List V} (x : Jv.Hand H h hl) (e : H b = some (.tup xs)) : b ≠ h := fun eh => by
  obtain ⟨ys, hy⟩ := x.lst
  rw [eh, hy] at e; cases e
end
structure Fix (K : PySem.W.Frag) (C h hl a sa : Addr) (l : Int) (L : List (List (List Int))) (k0 k1 : Bool) (p q : Nat) (wv kv : V) (H : Hp) : Prop where
  hh : Jv.Hand H h hl
  hs : H sa = some (.tup [.int p, .int q])
  g : GAt K H C a l (wantT L) k0 k1 p q
  w : Jv.Dv K H wv (wantT L)
  k : Jv.Dv K H kv (.tuple [.bool k0, .bool k1])
section
variable {K : PySem.W.Frag} {C h hl a sa : Addr} {l : Int} {L : List (List (List Int))} {k0 k1 : Bool} {p q : Nat} {wv kv : V} {H H' : Hp}
theorem Fix.same (f : Fix K C h hl a sa l L k0 k1 p q wv kv H) (s : Same H H') : Fix K C h hl a sa l L k0 k1 p q wv kv H' := ⟨f.hh.same s, s _ _ f.hs, f.g.same s, f.w.same s, f.k.same s⟩
theorem Fix.kp (f : Fix K C h hl a sa l L k0 k1 p q wv kv H) (k : Jv.Kp h H H') (hh : Jv.Hand H' h hl) : Fix K C h hl a sa l L k0 k1 p q wv kv H' := by
  obtain ⟨ys, hy⟩ := f.hh.lst
  exact ⟨hh, k _ _ (f.hh.neT f.hs) f.hs, ((f.g.hid hy).same k.hide).same Jv.hide_le, ((want_hide hy f.w).same k.hide).same Jv.hide_le, ((bb_hide hy f.k).same k.hide).same Jv.hide_le⟩
theorem Fix.sk (f : Fix K C h hl a sa l L k0 k1 p q wv kv H) : Jv.Sk K H (.ref sa) [.int p, .int q] := ⟨sa, rfl, .inr (Jv.sqT_at f.hs)⟩
end
theorem _root_.Jv.r_make {C : Addr} {sp : Sp} {dvs : List V} {E : XK} {t : TA} {σ : L2.St} {H : Hp} {Q : VK} (h : t σ H fun vs H1 => ∀ x dx, H1 x = none → H1 dx = none → dx ≠ x →
  sp (.ref x :: (vs ++ dvs)) (upd (upd H1 dx (.own x)) x (.ins C dx [])) (fun v H2 => v = .non ∧ Q (.ref x) H2) E) : tMake C sp dvs E t σ H Q := h
end K04

namespace K04
open PySem PySem.Spec PyProof.Rows L2
/-! ### the law -/
def sp_law (K : PySem.W.Frag) : Sp := fun vs H Q _ => ∃ (a : Addr) (ns : List Int), vs = [.ref a] ∧ SqL K H a (ns.map V.int) ∧ ns.length ≤ 63 ∧ ∀ H', Q (.bl true) H'
def zeroL (L : List (List (List Int))) : List (List (List Int)) := L.map fun line => line.map fun ns => ns ++ [0]
theorem zero_at {l : Int} {M : List (List (List Int))} {line : List (List Int)} {i : Nat} (c : M[i]? = some line) : (neatL l (zeroL M))[i]? = some (line.map fun ns => neatI l (ns ++ [0])) := by
  unfold neatL zeroL
  rw [List.getElem?_map, List.getElem?_map, c]
  show some ((line.map fun ns => ns ++ [0]).map (neatI l)) = some _
  rw [List.map_map]; rfl
theorem mk_good2 {K : PySem.W.Frag} {H1 : Hp} {C CB : Addr} {l : Int} {k0 k1 : Bool} {R : Addr → Hp → Prop} {E : XK} {xl xw xk : V} {dl dw dk : PyData} {lls : List (List (List Int))} {p q : Nat} (hl : Jv.Dv K H1 xl dl) (hw : Jv.Dv K H1 xw dw) (hk : Jv.Dv K H1 xk dk) (g : GoodG dl dw dk l lls k0 k1 p q)
    (k : ∀ r H', Same H1 H' → H1 r = none → GAt K H' C r l (wantD l lls) k0 k1 p q → R r H') :
    ∀ x dx, H1 x = none → H1 dx = none → dx ≠ x → sp_Goals_init K C CB [.ref x, xl, xw, xk] (upd (upd H1 dx (.own x)) x (.ins C dx [])) (fun v H2 => v = .non ∧ R x H2) E := fun x dx hx hd ne => by
  have s := make_same (o := .own x) (u := .ins C dx []) hx hd ne
  refine ⟨x, dx, xl, dl, xw, dw, xk, dk, rfl, upd_same, hl.same s, hw.same s, g.few, hk.same s, .inr ⟨l, lls, k0, k1, p, q, g, fun H' old ga => ⟨rfl, k x H' (fun b o hb => ?_) hx ga⟩⟩⟩
  exact old b o (ne_of_none hb hx) (s b o hb)
theorem empty_plain {L : List (List (List Int))} : ((plainL L).any fun line => line.any fun ns => decide ((ns.length : Int) = 0)) = !plainOk L := by
  unfold plainL plainOk
  induction L with
  | nil => rfl
  | cons a r ih =>
    rw [List.map_cons, List.any_cons, ih, List.all_cons, Bool.not_and]
    congr 1
    clear ih
    induction a with
    | nil => rfl
    | cons b s ih2 =>
      rw [List.map_cons, List.any_cons, ih2, List.all_cons, Bool.not_and, Bool.not_not]
      congr 1
      cases plainI b with
      | nil => rfl
      | cons x y => exact decide_eq_false (by simp; omega)
theorem put_dv {K : PySem.W.Frag} {H1 H8 : Hp} {L : List (List (List Int))} {line : List (List Int)} {As : List Addr} {F : Nat → List V} {ws : List V} {b D1 t3 : Addr} {e f : Int} {ns : List Int} (hL : L[e.toNat]? = some line) (hlA : As.length = L.length) (lws : ws.length = L.length)
    (hF : ∀ (i : Nat) v d, ws[i]? = some v → (L.map lineT)[i]? = some d → Jv.Sk K H1 v (F i) ∧ ∃ es, Jv.seqD d = some es ∧ Jv.DvAll K H1 (F i) es) (hbA : As[e.toNat]? = some b) (nd : As.Nodup) (s17 : Same H1 H8) (eD8 : H8 D1 = some (.lst (As.map V.ref)))
    (et8 : H8 t3 = some (.tup (ns.map V.int))) (al8 : ∀ (k : Nat) c, As[k]? = some c → c ≠ b → H8 c = some (.lst (F k))) (eb8 : H8 b = some (.lst ((F e.toNat).set f.toNat (.ref t3)))) (hf : f.toNat < line.length) : Jv.Dv K H8 (.ref D1) (wantS (putL L e f ns)) := by
  have el : putL L e f ns = L.set e.toNat (line.set f.toNat ns) := by unfold putL; rw [hL]; rfl
  have heL : e.toNat < L.length := (List.getElem?_eq_some_iff.mp hL).1
  have hwe : e.toNat < ws.length := by omega
  obtain ⟨_, es, he1, he2⟩ := hF e.toNat ws[e.toNat] (lineT line) (List.getElem?_eq_getElem hwe) (by rw [List.getElem?_map, hL]; rfl)
  cases he1
  have lF := he2.len
  rw [List.length_map] at lF
  refine .lst eD8 (Jv.dvAll_mk (by rw [List.length_map, List.length_map, el, List.length_set]; omega) fun i v d hv hd => ?_)
  rw [List.getElem?_map] at hv hd
  obtain ⟨c, hc, rfl⟩ := Option.map_eq_some_iff.mp hv
  obtain ⟨li, hli, rfl⟩ := Option.map_eq_some_iff.mp hd
  rw [el] at hli
  by_cases hie : i = e.toNat
  · subst hie
    rw [hbA] at hc; cases hc
    rw [List.getElem?_set_self heL] at hli
    cases hli
    refine .lst eb8 (Jv.dvAll_mk (by rw [List.length_map, List.length_set, List.length_set]; omega) fun j v d hv hd => ?_)
    rw [List.getElem?_map] at hd
    obtain ⟨ms, hms, rfl⟩ := Option.map_eq_some_iff.mp hd
    by_cases hjf : j = f.toNat
    · subst hjf
      rw [List.getElem?_set_self (by omega)] at hms hv
      cases hms; cases hv
      exact .tup (Jv.sqT_at et8) (Jv.dv_ints _)
    · rw [List.getElem?_set_ne (fun hh => hjf hh.symm)] at hms hv
      obtain ⟨d', e1, e2⟩ := he2.at hv
      rw [List.getElem?_map, hms] at e1
      cases e1
      exact e2.same s17
  · rw [List.getElem?_set_ne (fun hh => hie hh.symm)] at hli
    have hcb : c ≠ b := fun hh => by
      subst hh
      exact hie (nodup_at nd hc hbA)
    have hiw : i < ws.length := by
      have := (List.getElem?_eq_some_iff.mp hli).1
      omega
    obtain ⟨_, es, g1, g2⟩ := hF i ws[i] (lineT li) (List.getElem?_eq_getElem hiw) (by rw [List.getElem?_map, hli]; rfl)
    cases g1
    exact .lst (al8 i c hc hcb) (g2.same s17)
theorem Wd.putW {l e f : Int} {L : List (List (List Int))} {p q : Nat} {ns : List Int} (w : Wd l L p q) (he : 0 ≤ e ∧ e < p) (hf : 0 ≤ f ∧ f < q) (n0 : ns ≠ []) (n60 : ns.length ≤ 60) (nr : ∀ n ∈ ns, -l ≤ n ∧ n ≤ l) : Wd l (putL L e f (neatI l ns)) p q := by
  have g := w.goodPut he hf n0 n60 nr (dk := .tuple [.bool false, .bool false]) linesS rfl
  have r : Rw l (putL L e f ns) p q := ⟨g.hp, g.hq, g.ends⟩
  rw [← w.put he hf]
  exact r.neat w.l0 w.l6 ⟨w.p0, w.p6⟩ ⟨w.q0, w.q6⟩ w.pq
theorem r_tupRg2 {ta tb : TE} {σ : L2.St} {H : Hp} {Q : VK} (h : ta σ H fun x H1 => tb σ H1 fun y H2 => ∃ i j, x = .int i ∧ y = .int j ∧ RgOk i j ∧ ∀ q, H2 q = none → Q (.ref q) (upd H2 q (.tup (rgV i j)))) : tTupRg (tRg2 ta tb) σ H Q := h
theorem r_smeth {C : Addr} {sp : Sp} {dvs : List V} {E : XK} {ta : TE} {t : TA} {σ : L2.St} {H : Hp} {Q : VK} (h : ta σ H fun x H1 => x = .ref C ∧ t σ H1 fun vs H2 => sp (vs ++ dvs) H2 Q E) : Jv.tSMeth C sp dvs E ta t σ H Q := h
theorem rg_range {l : Int} : rgV (-l) (l + 1) = (rangeL l).map V.int := by
  unfold rgV rangeL
  rw [List.map_map, show (l + 1 - -l).toNat = (2 * l + 1).toNat by congr 1; omega]
  refine List.map_congr_left fun i _ => ?_
  show V.int (-l + (i : Int)) = V.int ((i : Int) - l)
  congr 1; omega
theorem _root_.Jv.lcRg {K : PySem.W.Frag} {σ : L2.St} {H : Hp} {te : TE} {Q : VK} {j : Nat} {N : List Addr} {ta : TA} {m : Int} (hit : ∀ P : List V → Hp → Prop, P [.int m] H → ta σ H P) (hm : 0 ≤ m ∧ m ≤ 1000) (hN : Jv.Held N H) (es : List PyData) (hl : es.length = m.toNat)
    (hs : ∀ (i : Nat) e D H1, i < m.toNat → es[i]? = some e → Same H H1 → Jv.Held (D :: N) H1 → H D = none → ∀ P : VK, (∀ y H2, Same H1 H2 → Jv.Dv K (Jv.hide (D :: N) H2) y e → P y H2) → te ((σ.set j none).set j (some (.int (0 + (i : Int))))) H1 P)
    (hd : ∀ D ys H1, Same H H1 → H D = none → H1 D = some (.lst ys) → Jv.DvAll K (Jv.hide N H1) ys es → Jv.DvAll K (Jv.hide (D :: N) H1) ys es → Q (.ref D) H1) : tLc (iRng1 ta) (gName j) tYes te [j] σ H Q := by
  refine Jv.r_lc (hit _ ⟨m, rfl, by omega, by omega, ?_⟩)
  exact Jv.lcD (n := m.toNat) (walk_range (lo := 0)) (fun _ _ => trivial) Jv.yfn hN es hl (by omega) (fun i v e D H1 hi hv he s hN1 hD P hP => by subst hv; exact hs i e D H1 hi he s hN1 hD P hP) hd
theorem zero_rw {l : Int} {L : List (List (List Int))} {p q : Nat} (w : Wd l L p q) : Rw l (zeroL L) p q := by
  have l0 := w.l0
  have l6 := w.l6
  refine ⟨by unfold zeroL; rw [List.length_map, w.hp], fun line hm => ?_, fun line hm ns hn => ?_⟩
  · obtain ⟨l1, h1, rfl⟩ := List.mem_map.mp hm
    rw [List.length_map, w.hq l1 h1]
  · obtain ⟨l1, h1, rfl⟩ := List.mem_map.mp hm
    obtain ⟨m, h2, rfl⟩ := List.mem_map.mp hn
    obtain ⟨a1, a2⟩ := w.ends l1 h1 m h2
    obtain ⟨_, a3⟩ := w.range h1 h2
    have f15 := neat_len (l := l) (ns := m) (by omega)
    rw [a2] at f15
    refine ⟨by simp, by rw [List.length_append]; simp; omega, fun n hn => ?_⟩
    rcases List.mem_append.mp hn with hn | hn
    · exact a3 n hn
    · rw [List.mem_singleton.mp hn]; omega
section
variable {P : Program} {w : World} {K : PySem.W.Frag} {mg : Str → Option Value} {base : Heap}
set_option maxHeartbeats 0 in
theorem ok_law (T : Tx) (O : Ok K mg T) : FnOk P w K mg base CX0 12 T.f_law T.d_law ["_law_script"] (sp_law K) := by
  refine O.F_law.ok sc_law (fun vs H Q E h => by obtain ⟨_, _, rfl, _⟩ := h; rfl) (fun cdv A outer s H vs Q E hr h => ?_)
  obtain ⟨sc, ns, rfl, hS, few, fin⟩ := h
  refine ⟨_, (pss_cons (ps_set (i := 1) sc_law.nd rfl (Or.inl rfl) (pe_call (ok_Lhand T O) (hr.mono (by decide)) (by rfl) O.m_Lhand O.F_Lhand.kp O.b_Lhand .nil pass0 (pa_cons (pv 0) pa_nil)))
  (pss_cons (ps_for PassesOwn.never rfl (pi_range1 (by rfl) O.z_range (pa_cons pe_int pa_nil)) (pg_name (i := 2) sc_law.nd rfl (Or.inl rfl)) (pss_cons (ps_set (i := 3) sc_law.nd rfl (Or.inr rfl) (pe_call (ok_Lwide_sides T O) (hr.mono (by decide)) (by rfl) O.m_Lwide_sides O.F_Lwide_sides.kp O.b_Lwide_sides .nil pass0 (pa_cons (pv 1) pa_nil)))
  (pss_cons (ps_set (i := 4) sc_law.nd rfl (Or.inr rfl) (pe_call (ok_Ldraw T O) (hr.mono (by decide)) (by rfl) O.m_Ldraw O.F_Ldraw.kp O.b_Ldraw .nil pass0 (pa_cons (pv 1) (pa_cons pe_int pa_nil))))
  (pss_cons (ps_set (i := 5) sc_law.nd rfl (Or.inl rfl) (pe_call (ok_Lneat_wanted T O) (hr.mono (by decide)) (by rfl) O.m_Lneat_wanted O.F_Lneat_wanted.kp O.b_Lneat_wanted .nil pass0 (pa_cons (pe_call (ok_Lraw_wanted T O) (hr.mono (by decide)) (by rfl) O.m_Lraw_wanted O.F_Lraw_wanted.kp O.b_Lraw_wanted .nil pass0 (pa_cons (pv 1) (pa_cons (pv 3) (pa_cons (pv 4) pa_nil)))) (pa_cons (pv 4) pa_nil))))
  (C8.pss_cut (ps_if (pt_cmpR op_eq (pe_call (ok_Ldraw T O) (hr.mono (by decide)) (by rfl) O.m_Ldraw O.F_Ldraw.kp O.b_Ldraw .nil pass0 (pa_cons (pv 1) (pa_cons pe_int pa_nil))) pe_int (nomark _)) (pss_one (ps_set (i := 5) sc_law.nd rfl (Or.inl rfl) (pe_callTy (r := Jv.rTupOf K) call_tuple_of (by rfl) O.z_tuple (by decide +kernel) (pa_cons (pe_lc (own := [("_law_line", 20)]) (by rfl) sc_law.nd (Jv.piOr (show PI _ _ _ (iList K _) from pi_list (pv 5)) (show PI _ _ _ (iTup K _) from pi_tup (pv 5))) (blkOk_by (own := [("_law_line", 20)]) (N := ["_law_script", "_law_hand_here", "_law_turn", "_law_sides", "_law_ladder", "_law_wanted", "_law_knows", "_law_one", "_law_goals", "_law_end", "_law_plain", "_law_empty", "_law_told", "_law_couple", "_law_lines", "_law_due", "_law_bad", "_law_every", "_law_full", "_law_shape", "_law_line", "_law_east", "_law_ends_here", "_law_west"]) (sc := defScope s_law) (scope := ({ kind := .function, names := [(".0", .local), ("_law_line", .local), ("tuple", .globalImplicit), ("_law_ladder", .free)], isGenerator := false, isCoroutine := false } : Scope)) (by decide +kernel)) (fun _ _ _ _ _ => (pg_name (i := 20) sc_law.nd rfl (Or.inl rfl))) (fun _ _ _ _ _ => pts_nil) (fun _ _ _ _ _ => (pe_callTy (r := Jv.rTupOf K) call_tuple_of (by rfl) O.z_tuple (by decide +kernel) (pa_cons (pe_lc (own := [("_law_ends_here", 22)]) (by rfl) sc_law.nd (Jv.piOr (show PI _ _ _ (iList K _) from pi_list (pv 20)) (show PI _ _ _ (iTup K _) from pi_tup (pv 20))) (blkOk_by (own := [("_law_ends_here", 22)]) (N := ["_law_script", "_law_hand_here", "_law_turn", "_law_sides", "_law_ladder", "_law_wanted", "_law_knows", "_law_one", "_law_goals", "_law_end", "_law_plain", "_law_empty", "_law_told", "_law_couple", "_law_lines", "_law_due", "_law_bad", "_law_every", "_law_full", "_law_shape", "_law_line", "_law_east", "_law_ends_here", "_law_west"]) (sc := ({ kind := .function, names := [(".0", .local), ("_law_line", .local), ("tuple", .globalImplicit), ("_law_ladder", .cell)], isGenerator := false, isCoroutine := false } : Scope)) (scope := ({ kind := .function, names := [(".0", .local), ("_law_ends_here", .local), ("_law_neat", .globalImplicit), ("_law_ladder", .free)], isGenerator := false, isCoroutine := false } : Scope)) (by decide +kernel)) (fun _ _ _ _ _ => (pg_name (i := 22) sc_law.nd rfl (Or.inl rfl))) (fun _ _ _ _ _ => pts_nil) (fun _ _ _ _ _ => (pe_call (ok_Lneat T O) (hr.mono (by decide)) (by rfl) O.m_Lneat O.F_Lneat.kp O.b_Lneat .nil pass0 (pa_cons (pe_op (r := rCatT K) op_catT (pv 22) (pe_tup (pa_cons pe_int pa_nil))) (pa_cons (pv 4) pa_nil))))) pa_nil)))) pa_nil)))) pss_nil)
  (pss_cons (ps_set (i := 6) sc_law.nd rfl (Or.inl rfl) (pe_call (ok_Ltruths T O) (hr.mono (by decide)) (by rfl) O.m_Ltruths O.F_Ltruths.kp O.b_Ltruths .nil pass0 (pa_cons (pv 1) pa_nil)))
  (pss_cons (ps_set (i := 7) sc_law.nd rfl (Or.inl rfl) (pe_tup (pa_cons (pv 4) (pa_cons (pv 5) (pa_cons (pv 6) pa_nil)))))
  (pss_cons (ps_set (i := 8) sc_law.nd rfl (Or.inl rfl) (pe_make (E := E0) O.k_Goals (ok_Goalsu_initu T O) (hr.mono (by decide)) (by rfl) O.m_Goals O.b_Goalsu_initu .nil passL (pa_cons (pv 4) (pa_cons (pv 5) (pa_cons (pv 6) pa_nil)))))
  (C8.pss_cut (ps_if (PW.pt (pw_or (pt_not (pt_val (pe_call (ok_Lcut_right T O) (hr.mono (by decide)) (by rfl) O.m_Lcut_right O.F_Lcut_right.kp O.b_Lcut_right .nil pass0 (pa_cons (pv 1) (pa_cons (pv 8) (pa_cons (pv 3) (pa_cons (pv 7) pa_nil))))))) (pw_or1 (pt_not (pt_val (pe_call (ok_Lraise_right T O) (hr.mono (by decide)) (by rfl) O.m_Lraise_right O.F_Lraise_right.kp O.b_Lraise_right .nil pass0 (pa_cons (pv 8) (pa_cons (pv 7) pa_nil)))))))) (pss_one (ps_ret pe_bl)) pss_nil)
  (pss_cons (ps_set (i := 10) sc_law.nd rfl (Or.inl rfl) (pe_callTy (r := Jv.rTupOf K) call_tuple_of (by rfl) O.z_tuple (by decide +kernel) (pa_cons (pe_lc (own := [("_law_line", 20)]) (by rfl) sc_law.nd (Jv.piOr (show PI _ _ _ (iList K _) from pi_list (pv 5)) (show PI _ _ _ (iTup K _) from pi_tup (pv 5))) (blkOk_by (own := [("_law_line", 20)]) (N := ["_law_script", "_law_hand_here", "_law_turn", "_law_sides", "_law_ladder", "_law_wanted", "_law_knows", "_law_one", "_law_goals", "_law_end", "_law_plain", "_law_empty", "_law_told", "_law_couple", "_law_lines", "_law_due", "_law_bad", "_law_every", "_law_full", "_law_shape", "_law_line", "_law_east", "_law_ends_here", "_law_west"]) (sc := defScope s_law) (scope := ({ kind := .function, names := [(".0", .local), ("_law_line", .local), ("tuple", .globalImplicit)], isGenerator := false, isCoroutine := false } : Scope)) (by decide +kernel)) (fun _ _ _ _ _ => (pg_name (i := 20) sc_law.nd rfl (Or.inl rfl))) (fun _ _ _ _ _ => pts_nil) (fun _ _ _ _ _ => (pe_callTy (r := Jv.rTupOf K) call_tuple_of (by rfl) O.z_tuple (by decide +kernel) (pa_cons (pe_lc (own := [("_law_ends_here", 22)]) (by rfl) sc_law.nd (Jv.piOr (show PI _ _ _ (iList K _) from pi_list (pv 20)) (show PI _ _ _ (iTup K _) from pi_tup (pv 20))) (blkOk_by (own := [("_law_ends_here", 22)]) (N := ["_law_script", "_law_hand_here", "_law_turn", "_law_sides", "_law_ladder", "_law_wanted", "_law_knows", "_law_one", "_law_goals", "_law_end", "_law_plain", "_law_empty", "_law_told", "_law_couple", "_law_lines", "_law_due", "_law_bad", "_law_every", "_law_full", "_law_shape", "_law_line", "_law_east", "_law_ends_here", "_law_west"]) (sc := ({ kind := .function, names := [(".0", .local), ("_law_line", .local), ("tuple", .globalImplicit)], isGenerator := false, isCoroutine := false } : Scope)) (scope := ({ kind := .function, names := [(".0", .local), ("_law_ends_here", .local), ("tuple", .globalImplicit)], isGenerator := false, isCoroutine := false } : Scope)) (by decide +kernel)) (fun _ _ _ _ _ => (pg_name (i := 22) sc_law.nd rfl (Or.inl rfl))) (fun _ _ _ _ _ => pts_nil) (fun _ _ _ _ _ => (pe_callTy (r := Jv.rTupOf K) call_tuple_of (by rfl) O.z_tuple (by decide +kernel) (pa_cons (pe_lc (own := [("_law_end", 9)]) (by rfl) sc_law.nd (Jv.piOr (show PI _ _ _ (iList K _) from pi_list (pv 22)) (show PI _ _ _ (iTup K _) from pi_tup (pv 22))) (blkOk_by (own := [("_law_end", 9)]) (N := ["_law_script", "_law_hand_here", "_law_turn", "_law_sides", "_law_ladder", "_law_wanted", "_law_knows", "_law_one", "_law_goals", "_law_end", "_law_plain", "_law_empty", "_law_told", "_law_couple", "_law_lines", "_law_due", "_law_bad", "_law_every", "_law_full", "_law_shape", "_law_line", "_law_east", "_law_ends_here", "_law_west"]) (sc := ({ kind := .function, names := [(".0", .local), ("_law_ends_here", .local), ("tuple", .globalImplicit)], isGenerator := false, isCoroutine := false } : Scope)) (scope := ({ kind := .function, names := [(".0", .local), ("_law_end", .local)], isGenerator := false, isCoroutine := false } : Scope)) (by decide +kernel)) (fun _ _ _ _ _ => (pg_name (i := 9) sc_law.nd rfl (Or.inl rfl))) (fun _ _ _ _ _ => (pts_one (pt_cmpR op_ge (pv 9) pe_int (nomark _)))) (fun _ _ _ _ _ => (pv 9))) pa_nil)))) pa_nil)))) pa_nil)))
  (C8.pss_cut (ps_set (i := 11) sc_law.nd rfl (Or.inl rfl) (pe_callB (r := rAny K) (cr_any rfl) (by rfl) O.z_any (by decide +kernel) (pa_cons (pe_lc (own := [("_law_line", 20)]) (by rfl) sc_law.nd (Jv.piOr (show PI _ _ _ (iList K _) from pi_list (pv 10)) (show PI _ _ _ (iTup K _) from pi_tup (pv 10))) (blkOk_by (own := [("_law_line", 20)]) (N := ["_law_script", "_law_hand_here", "_law_turn", "_law_sides", "_law_ladder", "_law_wanted", "_law_knows", "_law_one", "_law_goals", "_law_end", "_law_plain", "_law_empty", "_law_told", "_law_couple", "_law_lines", "_law_due", "_law_bad", "_law_every", "_law_full", "_law_shape", "_law_line", "_law_east", "_law_ends_here", "_law_west"]) (sc := defScope s_law) (scope := ({ kind := .function, names := [(".0", .local), ("_law_line", .local), ("any", .globalImplicit)], isGenerator := false, isCoroutine := false } : Scope)) (by decide +kernel)) (fun _ _ _ _ _ => (pg_name (i := 20) sc_law.nd rfl (Or.inl rfl))) (fun _ _ _ _ _ => pts_nil) (fun _ _ _ _ _ => (pe_callB (r := rAny K) (cr_any rfl) (by rfl) O.z_any (by decide +kernel) (pa_cons (pe_lc (own := [("_law_ends_here", 22)]) (by rfl) sc_law.nd (Jv.piOr (show PI _ _ _ (iList K _) from pi_list (pv 20)) (show PI _ _ _ (iTup K _) from pi_tup (pv 20))) (blkOk_by (own := [("_law_ends_here", 22)]) (N := ["_law_script", "_law_hand_here", "_law_turn", "_law_sides", "_law_ladder", "_law_wanted", "_law_knows", "_law_one", "_law_goals", "_law_end", "_law_plain", "_law_empty", "_law_told", "_law_couple", "_law_lines", "_law_due", "_law_bad", "_law_every", "_law_full", "_law_shape", "_law_line", "_law_east", "_law_ends_here", "_law_west"]) (sc := ({ kind := .function, names := [(".0", .local), ("_law_line", .local), ("any", .globalImplicit)], isGenerator := false, isCoroutine := false } : Scope)) (scope := ({ kind := .function, names := [(".0", .local), ("_law_ends_here", .local), ("len", .globalImplicit)], isGenerator := false, isCoroutine := false } : Scope)) (by decide +kernel)) (fun _ _ _ _ _ => (pg_name (i := 22) sc_law.nd rfl (Or.inl rfl))) (fun _ _ _ _ _ => pts_nil) (fun _ _ _ _ _ => (pe_cmpR op_eq (pe_callB (r := Jv.rLenK K) Jv.cr_len (by rfl) O.z_len (by decide +kernel) (pa_cons (pv 22) pa_nil)) pe_int (nomark _)))) pa_nil)))) pa_nil)))
  (C8.pss_cut (ps_set (i := 12) sc_law.nd rfl (Or.inl rfl) (pe_call (ok_Lwithout T O) (hr.mono (by decide)) (by rfl) O.m_Lwithout O.F_Lwithout.kp O.b_Lwithout .nil pass0 (pa_cons (pv 8) pa_nil)))
  (C8.pss_cut (ps_if (PW.pt (pw_and (pt_val (pv 11)) (pw_and1 (pt_cmpR (r := rNeD K) (op_neD hr.units) (pv 12) (pe_lst (pa_cons pe_str (pa_cons pe_str pa_nil))) (nomark _))))) (pss_one (ps_ret pe_bl)) pss_nil)
  (C8.pss_cut (ps_if (PW.pt (pw_and (pt_not (pt_val (pv 11))) (pw_and1 (pt_not (pt_val (pe_call (ok_Lgoal_facts T O) (hr.mono (by decide)) (by rfl) O.m_Lgoal_facts O.F_Lgoal_facts.kp O.b_Lgoal_facts .nil pass0 (pa_cons (pv 12) (pa_cons (pv 4) (pa_cons (pv 10) (pa_cons (pv 6) pa_nil)))))))))) (pss_one (ps_ret pe_bl)) pss_nil)
  (pss_cons (ps_set (i := 13) sc_law.nd rfl (Or.inl rfl) (pe_tup (pa_cons (pe_call (ok_Ldraw T O) (hr.mono (by decide)) (by rfl) O.m_Ldraw O.F_Ldraw.kp O.b_Ldraw .nil pass0 (pa_cons (pv 1) (pa_cons (pe_ix (r := rIx K) ix_seq (pv 3) pe_int (fun _ _ => rfl)) pa_nil))) (pa_cons (pe_call (ok_Ldraw T O) (hr.mono (by decide)) (by rfl) O.m_Ldraw O.F_Ldraw.kp O.b_Ldraw .nil pass0 (pa_cons (pv 1) (pa_cons (pe_ix (r := rIx K) ix_seq (pv 3) pe_int (fun _ _ => rfl)) pa_nil))) pa_nil))))
  (C8.pss_cut (ps_set (i := 9) sc_law.nd rfl (Or.inl rfl) (pe_op op_sub (pe_call (ok_Ldraw T O) (hr.mono (by decide)) (by rfl) O.m_Ldraw O.F_Ldraw.kp O.b_Ldraw .nil pass0 (pa_cons (pv 1) (pa_cons (pe_op op_add (pe_op op_mul pe_int (pv 4)) pe_int) pa_nil))) (pv 4)))
  (pss_cons (ps_setLc (i := 14) (own := [("_law_line", 20)]) (by rfl) sc_law.nd rfl rfl (sw_true rfl rfl rfl (by decide +kernel)) (Jv.piOr (show PI _ _ _ (iList K _) from pi_list (pv 5)) (show PI _ _ _ (iTup K _) from pi_tup (pv 5))) (blkOk_by (own := [("_law_line", 20)]) (N := ["_law_script", "_law_hand_here", "_law_turn", "_law_sides", "_law_ladder", "_law_wanted", "_law_knows", "_law_one", "_law_goals", "_law_end", "_law_plain", "_law_empty", "_law_told", "_law_couple", "_law_lines", "_law_due", "_law_bad", "_law_every", "_law_full", "_law_shape", "_law_line", "_law_east", "_law_ends_here", "_law_west"]) (sc := defScope s_law) (scope := ({ kind := .function, names := [(".0", .local), ("_law_line", .local), ("list", .globalImplicit)], isGenerator := false, isCoroutine := false } : Scope)) (by decide +kernel)) (fun _ _ _ _ _ => (pg_name (i := 20) sc_law.nd rfl (Or.inl rfl))) (fun _ _ _ _ _ => pts_nil) (fun _ _ _ _ _ => (pe_callTy (r := Jv.rListOf K) call_list_of (by rfl) O.z_list (by decide +kernel) (pa_cons (pv 20) pa_nil))))
  (pss_cons (ps_asg (pe_call (ok_Lneat T O) (hr.mono (by decide)) (by rfl) O.m_Lneat O.F_Lneat.kp O.b_Lneat .nil pass0 (pa_cons (pe_op (r := rCatT K) op_catT (pe_ix (r := rIx K) ix_seq (pe_ix (r := rIx K) ix_seq (pv 14) (pe_ix (r := rIx K) ix_seq (pv 13) pe_int (fun _ _ => rfl)) (fun _ _ => rfl)) (pe_ix (r := rIx K) ix_seq (pv 13) pe_int (fun _ _ => rfl)) (fun _ _ => rfl)) (pe_tup (pa_cons (pv 9) pa_nil))) (pa_cons (pv 4) pa_nil))) (pg_sub (pe_ix (r := rIx K) ix_seq (pv 14) (pe_ix (r := rIx K) ix_seq (pv 13) pe_int (fun _ _ => rfl)) (fun _ _ => rfl)) (pe_ix (r := rIx K) ix_seq (pv 13) pe_int (fun _ _ => rfl)) set_list))
  (C8.pss_cut (ps_set (i := 15) sc_law.nd rfl (Or.inl rfl) (pe_callTy (r := Jv.rTupOf K) call_tuple_of (by rfl) O.z_tuple (by decide +kernel) (pa_cons (pe_lc (own := [("_law_line", 20)]) (by rfl) sc_law.nd (Jv.piOr (show PI _ _ _ (iList K _) from pi_list (pv 14)) (show PI _ _ _ (iTup K _) from pi_tup (pv 14))) (blkOk_by (own := [("_law_line", 20)]) (N := ["_law_script", "_law_hand_here", "_law_turn", "_law_sides", "_law_ladder", "_law_wanted", "_law_knows", "_law_one", "_law_goals", "_law_end", "_law_plain", "_law_empty", "_law_told", "_law_couple", "_law_lines", "_law_due", "_law_bad", "_law_every", "_law_full", "_law_shape", "_law_line", "_law_east", "_law_ends_here", "_law_west"]) (sc := defScope s_law) (scope := ({ kind := .function, names := [(".0", .local), ("_law_line", .local), ("tuple", .globalImplicit)], isGenerator := false, isCoroutine := false } : Scope)) (by decide +kernel)) (fun _ _ _ _ _ => (pg_name (i := 20) sc_law.nd rfl (Or.inl rfl))) (fun _ _ _ _ _ => pts_nil) (fun _ _ _ _ _ => (pe_callTy (r := Jv.rTupOf K) call_tuple_of (by rfl) O.z_tuple (by decide +kernel) (pa_cons (pv 20) pa_nil)))) pa_nil)))
  (C8.pss_cut (ps_if (pt_not (pt_val (pe_call (ok_Lgoal_facts T O) (hr.mono (by decide)) (by rfl) O.m_Lgoal_facts O.F_Lgoal_facts.kp O.b_Lgoal_facts .nil pass0 (pa_cons (pe_call (ok_Lended T O) (hr.mono (by decide)) (by rfl) O.m_Lended O.F_Lended.kp O.b_Lended .nil pass0 (pa_cons (pv 8) (pa_cons (pe_callTy (r := Jv.rListOf K) call_list_of (by rfl) O.z_list (by decide +kernel) (pa_cons (pv 13) pa_nil)) (pa_cons (pv 9) pa_nil)))) (pa_cons (pv 4) (pa_cons (pv 15) (pa_cons (pv 6) pa_nil))))))) (pss_one (ps_ret pe_bl)) pss_nil)
  (C8.pss_cut (ps_for PassesOwn.never rfl (show PI _ _ _ (iTup K _) from pi_tup (pe_tup (pa_cons (pe_op op_add (pv 4) pe_int) (pa_cons (pe_op op_sub (pe_un un_neg (pv 4)) pe_int) (pa_cons pe_bl (pa_cons pe_non pa_nil)))))) (pg_name (i := 16) sc_law.nd rfl (Or.inl rfl)) (pss_one (ps_if (PW.pt (pw_or (pt_cmpR (r := rNeD K) (op_neD hr.units) (pe_call (ok_Lended T O) (hr.mono (by decide)) (by rfl) O.m_Lended O.F_Lended.kp O.b_Lended .nil pass0 (pa_cons (pv 8) (pa_cons (pv 13) (pa_cons (pv 16) pa_nil)))) (pe_lst (pa_cons pe_str pa_nil)) (nomark _)) (pw_or1 (pt_cmpR (r := rNeD K) (op_neD hr.units) (pe_call (ok_Lended T O) (hr.mono (by decide)) (by rfl) O.m_Lended O.F_Lended.kp O.b_Lended .nil pass0 (pa_cons (pv 8) (pa_cons (pe_tup (pa_cons (pe_ix (r := rIx K) ix_seq (pv 3) pe_int (fun _ _ => rfl)) (pa_cons pe_int pa_nil))) (pa_cons (pv 16) pa_nil)))) (pe_lst (pa_cons pe_str pa_nil)) (nomark _))))) (pss_one (ps_ret pe_bl)) pss_nil)))
  (pss_cons (ps_set (i := 17) sc_law.nd rfl (Or.inr rfl) (pe_tupRg rfl (by rfl) O.z_tuple (prg_2 (by rfl) O.z_range (pe_un un_neg (pv 4)) (pe_op op_add (pv 4) pe_int))))
  (C8.pss_cut (ps_set (i := 18) sc_law.nd rfl (Or.inl rfl) (pe_callTy (r := Jv.rTupOf K) call_tuple_of (by rfl) O.z_tuple (by decide +kernel) (pa_cons (pe_lc (own := [("_law_east", 21)]) (by rfl) sc_law.nd (pi_range1 (by rfl) O.z_range (pa_cons (pe_ix (r := rIx K) ix_seq (pv 3) pe_int (fun _ _ => rfl)) pa_nil)) (blkOk_by (own := [("_law_east", 21)]) (N := ["_law_script", "_law_hand_here", "_law_turn", "_law_sides", "_law_ladder", "_law_wanted", "_law_knows", "_law_one", "_law_goals", "_law_end", "_law_plain", "_law_empty", "_law_told", "_law_couple", "_law_lines", "_law_due", "_law_bad", "_law_every", "_law_full", "_law_shape", "_law_line", "_law_east", "_law_ends_here", "_law_west"]) (sc := defScope s_law) (scope := ({ kind := .function, names := [(".0", .local), ("_law_east", .local), ("tuple", .globalImplicit), ("range", .globalImplicit), ("_law_every", .free), ("_law_sides", .free)], isGenerator := false, isCoroutine := false } : Scope)) (by decide +kernel)) (fun _ _ _ _ _ => (pg_name (i := 21) sc_law.nd rfl (Or.inl rfl))) (fun _ _ _ _ _ => pts_nil) (fun _ _ _ _ _ => (pe_callTy (r := Jv.rTupOf K) call_tuple_of (by rfl) O.z_tuple (by decide +kernel) (pa_cons (pe_lc (own := [("_law_west", 23)]) (by rfl) sc_law.nd (pi_range1 (by rfl) O.z_range (pa_cons (pe_ix (r := rIx K) ix_seq (pv 3) pe_int (fun _ _ => rfl)) pa_nil)) (blkOk_by (own := [("_law_west", 23)]) (N := ["_law_script", "_law_hand_here", "_law_turn", "_law_sides", "_law_ladder", "_law_wanted", "_law_knows", "_law_one", "_law_goals", "_law_end", "_law_plain", "_law_empty", "_law_told", "_law_couple", "_law_lines", "_law_due", "_law_bad", "_law_every", "_law_full", "_law_shape", "_law_line", "_law_east", "_law_ends_here", "_law_west"]) (sc := ({ kind := .function, names := [(".0", .local), ("_law_east", .local), ("tuple", .globalImplicit), ("range", .globalImplicit), ("_law_every", .cell), ("_law_sides", .cell)], isGenerator := false, isCoroutine := false } : Scope)) (scope := ({ kind := .function, names := [(".0", .local), ("_law_west", .local), ("_law_every", .free)], isGenerator := false, isCoroutine := false } : Scope)) (by decide +kernel)) (fun _ _ _ _ _ => (pg_name (i := 23) sc_law.nd rfl (Or.inl rfl))) (fun _ _ _ _ _ => pts_nil) (fun _ _ _ _ _ => (pv 17))) pa_nil)))) pa_nil)))
  (C8.pss_cut (ps_if (pt_not (pt_val (pe_call (ok_Lgoal_facts T O) (hr.mono (by decide)) (by rfl) O.m_Lgoal_facts O.F_Lgoal_facts.kp O.b_Lgoal_facts .nil pass0 (pa_cons (pe_call (ok_Lall T O) (hr.mono (by decide)) (by rfl) O.m_Lall O.F_Lall.kp O.b_Lall .nil pass0 (pa_cons (pe_callTy (r := Jv.rListOf K) call_list_of (by rfl) O.z_list (by decide +kernel) (pa_cons (pv 3) pa_nil)) (pa_cons (pv 4) (pa_cons (pv 6) pa_nil)))) (pa_cons (pv 4) (pa_cons (pv 18) (pa_cons (pv 6) pa_nil))))))) (pss_one (ps_ret pe_bl)) pss_nil)
  (C8.pss_cut (ps_if (pt_not (pt_val (pe_call (ok_Lgoal_facts T O) (hr.mono (by decide)) (by rfl) O.m_Lgoal_facts O.F_Lgoal_facts.kp O.b_Lgoal_facts .nil pass0 (pa_cons (Jv.pe_smeth (E := E0) (pe_glob (v := .ref _) (by rfl) O.m_Goals rfl) O.s_Goals_all_wanted (ok_Goals_all_wanted T O) (hr.mono (by decide)) O.b1_Goals_all_wanted.2 O.b1_Goals_all_wanted.1 passL (pa_cons (pv 3) (pa_cons (pv 4) pa_nil))) (pa_cons (pv 4) (pa_cons (pv 18) (pa_cons (pe_tup (pa_cons pe_bl (pa_cons pe_bl pa_nil))) pa_nil))))))) (pss_one (ps_ret pe_bl)) pss_nil)
  (pss_cons (ps_set (i := 16) sc_law.nd rfl (Or.inl rfl) (pe_ix (r := rIxL K) ix_list (pe_lst (pa_cons pe_int (pa_cons (pe_un un_neg pe_int) (pa_cons pe_bl (pa_cons pe_non pa_nil))))) (pe_call (ok_Ldraw T O) (hr.mono (by decide)) (by rfl) O.m_Ldraw O.F_Ldraw.kp O.b_Ldraw .nil pass0 (pa_cons (pv 1) (pa_cons pe_int pa_nil))) (fun _ _ => rfl)))
  (C8.pss_cut (ps_set (i := 19) sc_law.nd rfl (Or.inl rfl) (pe_ix (r := rIxL K) ix_list (pe_lst (pa_cons (pe_tup (pa_cons pe_int (pa_cons pe_int pa_nil))) (pa_cons (pe_tup (pa_cons pe_int (pa_cons pe_int pa_nil))) (pa_cons pe_non (pa_cons (pe_tup (pa_cons pe_int (pa_cons pe_int pa_nil))) (pa_cons (pe_tup (pa_cons pe_int (pa_cons pe_int (pa_cons pe_int pa_nil)))) pa_nil)))))) (pe_call (ok_Ldraw T O) (hr.mono (by decide)) (by rfl) O.m_Ldraw O.F_Ldraw.kp O.b_Ldraw .nil pass0 (pa_cons (pv 1) (pa_cons pe_int pa_nil))) (fun _ _ => rfl)))
  (C8.pss_cut (ps_if (PW.pt (pw_or (pt_cmpR (r := rNeD K) (op_neD hr.units) (pe_call (ok_Lall T O) (hr.mono (by decide)) (by rfl) O.m_Lall O.F_Lall.kp O.b_Lall .nil pass0 (pa_cons (pv 19) (pa_cons (pv 16) (pa_cons pe_non pa_nil)))) (pe_lst (pa_cons pe_str (pa_cons pe_str pa_nil))) (nomark _)) (pw_or1 (pt_cmpR (r := rNeD K) (op_neD hr.units) (pe_call (ok_Lall T O) (hr.mono (by decide)) (by rfl) O.m_Lall O.F_Lall.kp O.b_Lall .nil pass0 (pa_cons (pv 19) (pa_cons (pv 4) (pa_cons pe_non pa_nil)))) (pe_lst (pa_cons pe_str (pa_cons pe_str pa_nil))) (nomark _))))) (pss_one (ps_ret pe_bl)) pss_nil)
  (C8.pss_cut (ps_if (pt_cmpR (r := rNeD K) (op_neD hr.units) (pe_call (ok_Lall T O) (hr.mono (by decide)) (by rfl) O.m_Lall O.F_Lall.kp O.b_Lall .nil pass0 (pa_cons (pv 3) (pa_cons (pv 4) (pa_cons (pe_tup (pa_cons pe_bl (pa_cons pe_int pa_nil))) pa_nil)))) (pe_lst (pa_cons pe_str (pa_cons pe_str pa_nil))) (nomark _)) (pss_one (ps_ret pe_bl)) pss_nil)
  (pss_one (ps_if (pt_not (pt_val (pe_call (ok_Lgoal_facts T O) (hr.mono (by decide)) (by rfl) O.m_Lgoal_facts O.F_Lgoal_facts.kp O.b_Lgoal_facts .nil pass0 (pa_cons (pv 8) (pa_cons (pv 4) (pa_cons (pv 5) (pa_cons (pv 6) pa_nil))))))) (pss_one (ps_ret pe_bl)) pss_nil)))))))))))))))))))))))))))))))
  (pss_one (ps_ret pe_bl)))), ?_⟩
  walk_at "r"
  refine ⟨sc, ns, rfl, hS, few, fun h hl H0 s0 nh hh => ?_⟩
  walk_at "r"
  refine ⟨3, rfl, by decide, by decide, ?_⟩
  clear s0 nh hS few
  refine for_range (lo := 0) (n := ((3 : Int)).toNat) (fun i σ H' => ∃ y2 y3 y4 y5 y6 y7 y8 y9 y10 y11 y12 y13 y14 y15 y16 y17 y18 y19, σ = [some (.ref sc), some (.ref h), y2, y3, y4, y5, y6, y7, y8, y9, y10, y11, y12, y13, y14, y15, y16, y17, y18, y19, none, none, none, none] ∧ Jv.Hand H' h hl) ⟨_, _, _, _, _, _, _, _, _, _, _, _, _, _, _, _, _, _, rfl, hh⟩ ?_ ?_
  case refine_2 =>
    rintro σ H1 ⟨y2, y3, y4, y5, y6, y7, y8, y9, y10, y11, y12, y13, y14, y15, y16, y17, y18, y19, rfl, _⟩
    walk_at "r"
    exact fin _
  clear hh
  rintro i σ H1 hi ⟨y2, y3, y4, y5, y6, y7, y8, y9, y10, y11, y12, y13, y14, y15, y16, y17, y18, y19, rfl, hh⟩
  walk_at "r"
  refine ⟨h, hl, rfl, hh, fun sa p' q' H2 hb kp2 hh2 hsa => ?_⟩
  obtain ⟨p, rfl⟩ : ∃ p : Nat, p' = p := ⟨p'.toNat, by omega⟩
  obtain ⟨q, rfl⟩ : ∃ q : Nat, q' = q := ⟨q'.toNat, by omega⟩
  have hp : 1 ≤ p ∧ p ≤ 6 := by omega
  have hq : 1 ≤ q ∧ q ≤ 6 := by omega
  have hpq : p * q ≤ 12 := by have := hb.2.2; exact_mod_cast this
  walk_at "r"
  refine ⟨h, hl, _, rfl, hh2, ⟨by decide, Jv.log_small (by decide) (by decide)⟩, fun lad H3 z0 z1 kp3 hh3 => ?_⟩
  have hsa3 := kp3 sa _ (hh2.neT hsa) hsa
  walk_at "r"
  refine ⟨h, hl, sa, lad, p, q, rfl, hh3, hsa3, ⟨by omega, by omega⟩, ⟨by omega, by omega⟩, fun r d L H4 dv lr rw4 kp4 hh4 => ?_⟩
  have hsa4 := kp4 sa _ (hh3.neT hsa3) hsa3
  walk_at "r"
  refine ⟨r, d, L, lad, p, q, rfl, dv.same Jv.hide_le, lr, rw4, ⟨by omega, by omega⟩, ⟨by omega, by omega⟩, fun t H5 s5 dw => ?_⟩
  have hh5 := hh4.same s5
  have hsa5 := s5 _ _ hsa4
  have wd5 := rw4.neat z0 (by omega) hp hq hpq
  walk_at "r"
  refine ⟨fun σ H' => ∃ y2 y6 y7 y8 y9 y10 y11 y12 y13 y14 y15 y16 y17 y18 y19 wv L, σ = [some (.ref sc), some (.ref h), y2, some (.ref sa), some (.int lad), some wv, y6, y7, y8, y9, y10, y11, y12, y13, y14, y15, y16, y17, y18, y19, none, none, none, none] ∧ Jv.Hand H' h hl ∧ H' sa = some (.tup [.int p, .int q]) ∧ Wd lad L p q ∧ Jv.Dv K H' wv (wantT L), ?_, ?_⟩
  · clear dv lr kp4 hh4 hsa4 kp3 hh3 hsa3 hh2 hsa kp2 hh
    walk_at "r"
    refine ⟨h, hl, _, rfl, hh5, ⟨by decide, Jv.log_small (by decide) (by decide)⟩, fun z H6 y0 y1 kp6 hh6 => ?_⟩
    obtain ⟨yy, hyy⟩ := hh5.lst
    have hsa6 := kp6 sa _ (hh5.neT hsa5) hsa5
    have dw6 : Jv.Dv K H6 (.ref t) (wantT (neatL lad L)) := ((want_hide hyy dw).same kp6.hide).same Jv.hide_le
    walk_at "r"
    refine Jv.r_decI (fun _ => ?_) (fun _ => ?_)
    · have wdz := (zero_rw wd5).neat z0 (by omega) hp hq hpq
      obtain ⟨ws, skW, alW⟩ := dw6.sk rfl
      have lws := alW.len
      rw [List.length_map] at lws
      have hpL := wd5.hp
      walk_at "r"
      refine Jv.lcS2 (K := K) (N := []) (j := 20) (i := 5) rfl skW .nil ((neatL lad (zeroL (neatL lad L))).map lineT) (by rw [List.length_map, wdz.hp]; omega) (by omega) (fun i v e D1 HA hi hv he s6 hN1 hD1 PP hP => ?_) (fun D1 ys HA s6 hD1 eD1 dv1 _ => ?_)
      · obtain ⟨dl, c1, c2⟩ := alW.at hv
        rw [List.getElem?_map] at c1
        obtain ⟨line, c3, rfl⟩ := Option.map_eq_some_iff.mp c1
        have hline := List.mem_of_getElem? c3
        have hlq := wd5.hq line hline
        have ee : e = lineT (line.map fun ns => neatI lad (ns ++ [0])) := by
          have e1 := zero_at (l := lad) c3
          rw [List.getElem?_map, e1] at he
          exact (Option.some.inj he).symm
        subst ee
        obtain ⟨us, skU, alU⟩ := (c2.same s6).sk rfl
        have lus := alU.len
        rw [List.length_map] at lus
        walk_at "r"
        refine Jv.lcS2 (K := K) (N := [D1]) (j := 22) (i := 20) rfl skU hN1 ((line.map fun ns => neatI lad (ns ++ [0])).map fun ns => .tuple (ns.map .int)) (by rw [List.length_map, List.length_map]; omega) (by omega) (fun i2 u e2 D2 HB hi2 hu he2 s7 hN2 hD2 PP2 hP2 => ?_) (fun D2 ys2 HB s7 hD2 eD2 dv2 _ => ?_)
        · obtain ⟨dn, n1, n2⟩ := alU.at hu
          rw [List.getElem?_map] at n1
          obtain ⟨ns, n3, rfl⟩ := Option.map_eq_some_iff.mp n1
          have ee2 : e2 = .tuple ((neatI lad (ns ++ [0])).map .int) := by
            rw [List.map_map, List.getElem?_map, n3] at he2
            exact (Option.some.inj he2).symm
          subst ee2
          have hns := List.mem_of_getElem? n3
          obtain ⟨few60, _⟩ := wd5.range hline hns
          have f15 := neat_len (l := lad) (ns := ns) (by omega)
          rw [(wd5.ends line hline ns hns).2] at f15
          obtain ⟨ua, rfl, squ⟩ : ∃ ua, u = .ref ua ∧ SqT K HB ua (ns.map V.int) := by
            cases n2.same s7 with
            | tup h qd => rw [Jv.dv_intsV qd] at h; exact ⟨_, rfl, h⟩
          walk_at "r"
          intro t0 ht0
          walk_at "r"
          refine ⟨ua, t0, ns.map V.int, [.int 0], rfl, rfl, Jv.sqT_new squ ht0, Jv.sqT_at upd_same, fun e => (wd5.ends line hline ns hns).1 (List.map_eq_nil_iff.mp e), Jv.small_of (by simp; omega), fun e => (by cases e), fun _ t1 ht1 => ?_⟩
          have sBC := (Jv.same_new (u := .tup [.int 0]) ht0).trans (Jv.same_new (u := .tup (ns.map V.int ++ [.int 0])) ht1)
          walk_at "r"
          refine ⟨.ref t1, ns ++ [0], lad, rfl, ⟨t1, rfl, .inr (Jv.sqT_at (by rw [upd_same, List.map_append]; rfl))⟩, ⟨by omega, by omega⟩, by rw [List.length_append]; simp; omega, fun t8 H8 s8 n8 e8 => hP2 _ _ (sBC.trans s8) (.tup (Jv.sqT_at (Jv.hide_at ((hN2.same sBC).new n8) e8)) (Jv.dv_ints _))⟩
        · walk_at "r"
          refine ⟨D2, _, rfl, .inl ⟨Jv.sqL_at eD2, fun t2 ht2 => ?_⟩⟩
          exact hP _ _ (s7.trans (Jv.same_new ht2)) (Jv.dv_new ht2 (hN1.same s7) dv2)
      · walk_at "r"
        refine ⟨D1, _, rfl, .inl ⟨Jv.sqL_at eD1, fun t2 ht2 => ?_⟩⟩
        rw [Jv.hide_nil] at dv1
        have s6n := s6.trans (Jv.same_new (u := .tup ys) ht2)
        walk_at "r"
        exact ⟨_, _, _, _, _, _, _, _, _, _, _, _, _, _, _, _, _, rfl, hh6.same s6n, s6n _ _ hsa6, wdz, .tup (Jv.sqT_at upd_same) (dv1.same (Jv.same_new ht2))⟩
    · walk_at "r"
      exact ⟨_, _, _, _, _, _, _, _, _, _, _, _, _, _, _, _, _, rfl, hh6, hsa6, wd5, dw6⟩
  clear hh5 hsa5 wd5 dw s5 dv lr kp4 hh4 hsa4 kp3 hh3 hsa3 hh2 hsa kp2 hh rw4
  rintro σ H6 ⟨y2, y6, y7, y8, y9, y10, y11, y12, y13, y14, y15, y16, y17, y18, y19, wv, L, rfl, hh6, hsa6, wd, dw⟩
  walk_at "r"
  refine ⟨h, hl, rfl, hh6, fun ka k0 k1 H7 nka eka kp7 hh7 => ?_⟩
  obtain ⟨yy, hyy⟩ := hh6.lst
  have hsa7 := kp7 sa _ (hh6.neT hsa6) hsa6
  have dw7 : Jv.Dv K H7 wv (wantT L) := ((want_hide hyy dw).same kp7.hide).same Jv.hide_le
  have dk7 : Jv.Dv K H7 (.ref ka) (.tuple [.bool k0, .bool k1]) := .tup (Jv.sqT_at eka) (.cons (.bl _) (.cons (.bl _) .nil))
  clear hyy hh6 hsa6 dw kp7 nka
  walk_at "r"
  intro o hO
  have hh8 := hh7.same (Jv.same_new (u := .tup [.int lad, wv, .ref ka]) hO)
  have hsa8 := (Jv.same_new (u := .tup [.int lad, wv, .ref ka]) hO) _ _ hsa7
  have dw8 := dw7.same (Jv.same_new (u := .tup [.int lad, wv, .ref ka]) hO)
  have dk8 := dk7.same (Jv.same_new (u := .tup [.int lad, wv, .ref ka]) hO)
  have eo8 : upd H7 o (.tup [.int lad, wv, .ref ka]) o = some (.tup [.int lad, wv, .ref ka]) := upd_same
  clear dw7 dk7 hsa7 hh7 eka
  generalize upd H7 o (.tup [.int lad, wv, .ref ka]) = H8 at hh8 hsa8 dw8 dk8 eo8 ⊢
  walk_at "r"
  refine Jv.r_make ?_
  walk_at "r"
  refine mk_good2 (C := T.C_Goals) (CB := T.C_BadGoals) (.int lad) dw8 dk8 (wd.good linesT rfl) fun a H9 s9 na9 ga9 => ?_
  rw [want_eq, wd.same] at ga9
  have fix : Fix K T.C_Goals h hl a sa lad L k0 k1 p q wv (.ref ka) H9 := ⟨hh8.same s9, s9 _ _ hsa8, ga9, dw8.same s9, dk8.same s9⟩
  have eo9 := s9 _ _ eo8
  clear hh8 hsa8 dw8 dk8 eo8 s9 na9 ga9
  walk_at "r"
  refine ⟨fun σ H' => ∃ y2 y7 y9 y10 y11 y12 y13 y14 y15 y16 y17 y18 y19 kv, σ = [some (.ref sc), some (.ref h), y2, some (.ref sa), some (.int lad), some wv, some kv, y7, some (.ref a), y9, y10, y11, y12, y13, y14, y15, y16, y17, y18, y19, none, none, none, none] ∧ Fix K T.C_Goals h hl a sa lad L k0 k1 p q wv kv H', ?_, ?_⟩
  · obtain ⟨yy, hyy⟩ := fix.hh.lst
    walk_at "r"
    refine ⟨h, hl, a, sa, o, lad, L, k0, k1, p, q, wv, .ref ka, rfl, fix.hh, fix.g.hid hyy, wd, fix.hs, eo9, want_hide hyy fix.w, bb_hide hyy fix.k, fun HA kpA hhA => ?_⟩
    have fixA := fix.kp kpA hhA
    have eoA := kpA _ _ (fix.hh.neT eo9) eo9
    walk_at "r"
    refine ⟨a, o, lad, L, k0, k1, p, q, wv, .ref ka, rfl, fixA.g, wd, Jv.sqT_at eoA, fixA.w, fixA.k, fun HB sB => ?_⟩
    walk_at "r"
    exact ⟨_, _, _, _, _, _, _, _, _, _, _, _, _, _, rfl, fixA.same sB⟩
  clear fix eo9
  rintro σ H9 ⟨y2, y7, y9, y10, y11, y12, y13, y14, y15, y16, y17, y18, y19, kv, rfl, fix⟩
  have hp6 := wd.p6
  have hq6 := wd.q6
  have hpL := wd.hp
  obtain ⟨ws, skW, alW⟩ := fix.w.sk rfl
  have lws := alW.len
  rw [List.length_map] at lws
  walk_at "r"
  refine Jv.lcS2 (K := K) (N := []) (j := 20) (i := 5) rfl skW .nil ((plainL L).map lineT) (by rw [List.length_map]; unfold plainL; rw [List.length_map]; omega) (by omega) (fun i v e D1 HA hi hv he s6 hN1 hD1 PP hP => ?_) (fun D1 ys HA s6 hD1 eD1 dv1 _ => ?_)
  · obtain ⟨dl, c1, c2⟩ := alW.at hv
    rw [List.getElem?_map] at c1
    obtain ⟨line, c3, rfl⟩ := Option.map_eq_some_iff.mp c1
    have hline := List.mem_of_getElem? c3
    have hlq := wd.hq line hline
    have ee : e = lineT (line.map plainI) := by
      unfold plainL at he
      rw [List.map_map, List.getElem?_map, c3] at he
      exact (Option.some.inj he).symm
    subst ee
    obtain ⟨us, skU, alU⟩ := (c2.same s6).sk rfl
    have lus := alU.len
    rw [List.length_map] at lus
    walk_at "r"
    refine Jv.lcS2 (K := K) (N := [D1]) (j := 22) (i := 20) rfl skU hN1 ((line.map plainI).map fun ns => .tuple (ns.map .int)) (by rw [List.length_map, List.length_map]; omega) (by omega) (fun i2 u e2 D2 HB hi2 hu he2 s7 hN2 hD2 PP2 hP2 => ?_) (fun D2 ys2 HB s7 hD2 eD2 dv2 _ => ?_)
    · obtain ⟨dn, n1, n2⟩ := alU.at hu
      rw [List.getElem?_map] at n1
      obtain ⟨ns, n3, rfl⟩ := Option.map_eq_some_iff.mp n1
      have ee2 : e2 = .tuple ((plainI ns).map .int) := by
        rw [List.map_map, List.getElem?_map, n3] at he2
        exact (Option.some.inj he2).symm
      subst ee2
      obtain ⟨us3, skU3, alU3⟩ := (n2.same s7).sk rfl
      obtain rfl := Jv.dv_intsV alU3
      obtain ⟨few60, _⟩ := wd.range hline (List.mem_of_getElem? n3)
      walk_at "r"
      refine Jv.lcF2 (K := K) (j := 9) (i := 22) rfl skU3 (fun z => decide (0 ≤ z)) (by omega) (fun z H8 hz s8 R hR => ?_) (fun z H8 PP3 hP3 => ?_) (fun D3 H8 s8 hD3 eD3 => ?_)
      · walk_at "r"
        exact hR _ (Same.refl _)
      · walk_at "r"
        exact hP3
      · walk_at "r"
        refine ⟨D3, _, rfl, .inl ⟨Jv.sqL_at eD3, fun t2 ht2 => ?_⟩⟩
        exact hP2 _ _ (s8.trans (Jv.same_new ht2)) (.tup (Jv.sqT_at (Jv.hide_at ((hN2.same s8).new ht2) upd_same)) (Jv.dv_ints _))
    · walk_at "r"
      refine ⟨D2, _, rfl, .inl ⟨Jv.sqL_at eD2, fun t2 ht2 => ?_⟩⟩
      exact hP _ _ (s7.trans (Jv.same_new ht2)) (Jv.dv_new ht2 (hN1.same s7) dv2)
  walk_at "r"
  refine ⟨D1, _, rfl, .inl ⟨Jv.sqL_at eD1, fun pa hpa => ?_⟩⟩
  rw [Jv.hide_nil] at dv1
  have fixA := fix.same (s6.trans (Jv.same_new (u := .tup ys) hpa))
  have dpa : Jv.Dv K (upd HA pa (.tup ys)) (.ref pa) (wantT (plainL L)) := .tup (Jv.sqT_at upd_same) (dv1.same (Jv.same_new hpa))
  generalize upd HA pa (.tup ys) = HB at fixA dpa ⊢
  clear fix skW alW lws eD1 dv1 s6 hD1 hpa
  walk_at "r"
  refine ⟨fun σ H' => ∃ y2 y7 y9 y12 y13 y14 y15 y16 y17 y18 y19, σ = [some (.ref sc), some (.ref h), y2, some (.ref sa), some (.int lad), some wv, some kv, y7, some (.ref a), y9, some (.ref pa), some (.bl (!plainOk L)), y12, y13, y14, y15, y16, y17, y18, y19, none, none, none, none] ∧ Fix K T.C_Goals h hl a sa lad L k0 k1 p q wv kv H' ∧ Jv.Dv K H' (.ref pa) (wantT (plainL L)), ?_, ?_⟩
  · obtain ⟨xs, skX, alX⟩ := dpa.sk rfl
    have lxs := alX.len
    rw [List.length_map] at lxs
    have lpl : (plainL L).length = p := by unfold plainL; rw [List.length_map, hpL]
    walk_at "r"
    refine Jv.lcS2 (K := K) (N := []) (j := 20) (i := 10) rfl skX .nil (((plainL L).map fun line => line.any fun ns => decide ((ns.length : Int) = 0)).map PyData.bool) (by rw [List.length_map, List.length_map]; omega) (by omega) (fun i v e D1 HC hi hv he s6 hN1 hD1 PP hP => ?_) (fun D1 ys HC s6 hD1 eD1 dv1 _ => ?_)
    · obtain ⟨dl, c1, c2⟩ := alX.at hv
      rw [List.getElem?_map] at c1
      obtain ⟨line, c3, rfl⟩ := Option.map_eq_some_iff.mp c1
      rw [List.map_map, List.getElem?_map, c3] at he
      obtain rfl := Option.some.inj he
      obtain ⟨us, skU, alU⟩ := (c2.same s6).sk rfl
      have lus := alU.len
      rw [List.length_map] at lus
      have hlq : line.length = q := by
        obtain ⟨l1, h1, rfl⟩ := List.mem_map.mp (List.mem_of_getElem? c3)
        rw [List.length_map, wd.hq l1 h1]
      walk_at "r"
      refine Jv.lcS2 (K := K) (N := []) (j := 22) (i := 20) rfl skU .nil ((line.map fun ns => decide ((ns.length : Int) = 0)).map PyData.bool) (by rw [List.length_map, List.length_map]; omega) (by omega) (fun i2 u e2 D2 HD hi2 hu he2 s7 hN2 hD2 PP2 hP2 => ?_) (fun D2 ys2 HD s7 hD2 eD2 dv2 _ => ?_)
      · obtain ⟨dn, n1, n2⟩ := alU.at hu
        rw [List.getElem?_map] at n1
        obtain ⟨ns, n3, rfl⟩ := Option.map_eq_some_iff.mp n1
        rw [List.map_map, List.getElem?_map, n3] at he2
        obtain rfl := Option.some.inj he2
        obtain ⟨us3, skU3, alU3⟩ := (n2.same s7).sk rfl
        obtain rfl := Jv.dv_intsV alU3
        walk_at "r"
        refine skU3.len ?_
        walk_at "r"
        rw [List.length_map, show decide (V.int (ns.length : Int) = V.int 0) = decide ((ns.length : Int) = 0) from decide_eq_decide.mpr ⟨fun h => V.int.inj h, fun h => by rw [h]⟩]
        exact hP2 _ _ (Same.refl _) (.bl _)
      · walk_at "r"
        rw [Jv.hide_nil] at dv2
        rw [Jv.dv_bools dv2] at eD2
        refine ⟨D2, _, rfl, Jv.sqL_at eD2, ?_⟩
        rw [List.any_map]
        exact hP _ _ s7 (.bl _)
    · walk_at "r"
      rw [Jv.hide_nil] at dv1
      rw [Jv.dv_bools dv1] at eD1
      refine ⟨D1, _, rfl, Jv.sqL_at eD1, ?_⟩
      rw [List.any_map]
      have ee : ((plainL L).any ((id : Bool → Bool) ∘ fun line => line.any fun ns => decide ((ns.length : Int) = 0))) = !plainOk L := empty_plain
      rw [ee]
      walk_at "r"
      exact ⟨_, _, _, _, _, _, _, _, _, _, _, rfl, fixA.same s6, dpa.same s6⟩
  clear fixA dpa
  rintro σ HB ⟨y2, y7, y9, y12, y13, y14, y15, y16, y17, y18, y19, rfl, fix, dpa⟩
  walk_at "r"
  refine ⟨fun σ H' => ∃ y2 y7 y9 y13 y14 y15 y16 y17 y18 y19 ta, σ = [some (.ref sc), some (.ref h), y2, some (.ref sa), some (.int lad), some wv, some kv, y7, some (.ref a), y9, some (.ref pa), some (.bl (!plainOk L)), some (.ref ta), y13, y14, y15, y16, y17, y18, y19, none, none, none, none] ∧ Fix K T.C_Goals h hl a sa lad L k0 k1 p q wv kv H' ∧ Jv.Dv K H' (.ref pa) (wantT (plainL L)) ∧ (plainOk L = true → GAt K H' T.C_Goals ta lad (wantT (plainL L)) k0 k1 p q) ∧ (plainOk L = false → H' ta = some (.lst [.str "goals", .str "wanted"])), ?_, ?_⟩
  · walk_at "r"
    refine ⟨a, lad, L, k0, k1, p, q, rfl, fix.g, wd, ?_⟩
    by_cases eok : plainOk L = true
    · refine .inl ⟨eok, fun ta HC sC ga => ?_⟩
      walk_at "r"
      exact ⟨_, _, _, _, _, _, _, _, _, _, _, rfl, fix.same sC, dpa.same sC, fun _ => ga, fun e => by rw [eok] at e; cases e⟩
    · refine .inr ⟨by rw [Bool.not_eq_true] at eok; exact eok, fun ta HC sC eta => ?_⟩
      walk_at "r"
      exact ⟨_, _, _, _, _, _, _, _, _, _, _, rfl, fix.same sC, dpa.same sC, fun e => absurd e eok, fun _ => eta⟩
  clear fix dpa
  rintro σ HB ⟨y2, y7, y9, y13, y14, y15, y16, y17, y18, y19, ta, rfl, fix, dpa, ga, eta⟩
  walk_at "r"
  refine ⟨fun σ H' => ∃ y2 y7 y9 y13 y14 y15 y16 y17 y18 y19, σ = [some (.ref sc), some (.ref h), y2, some (.ref sa), some (.int lad), some wv, some kv, y7, some (.ref a), y9, some (.ref pa), some (.bl (!plainOk L)), some (.ref ta), y13, y14, y15, y16, y17, y18, y19, none, none, none, none] ∧ Fix K T.C_Goals h hl a sa lad L k0 k1 p q wv kv H' ∧ Jv.Dv K H' (.ref pa) (wantT (plainL L)) ∧ (plainOk L = true → GAt K H' T.C_Goals ta lad (wantT (plainL L)) k0 k1 p q), ?_, ?_⟩
  · by_cases eok : plainOk L = true
    · rw [eok]
      walk_at "r"
      exact ⟨_, _, _, _, _, _, _, _, _, _, rfl, fix, dpa, fun _ => ga eok⟩
    · rw [Bool.not_eq_true] at eok
      have eta := eta eok
      rw [eok]
      walk_at "r"
      intro t ht
      refine word_wanted.ne (Jv.kp eta ht) upd_same ?_
      walk_at "r"
      exact ⟨_, _, _, _, _, _, _, _, _, _, rfl, fix.same (Jv.same_new ht), dpa.same (Jv.same_new ht), fun e => (by cases e)⟩
  clear fix dpa ga eta
  rintro σ HB ⟨y2, y7, y9, y13, y14, y15, y16, y17, y18, y19, rfl, fix, dpa, ga⟩
  walk_at "r"
  refine ⟨fun σ H' => ∃ y2 y7 y9 y10 y11 y12 y13 y14 y15 y16 y17 y18 y19, σ = [some (.ref sc), some (.ref h), y2, some (.ref sa), some (.int lad), some wv, some kv, y7, some (.ref a), y9, y10, y11, y12, y13, y14, y15, y16, y17, y18, y19, none, none, none, none] ∧ Fix K T.C_Goals h hl a sa lad L k0 k1 p q wv kv H', ?_, ?_⟩
  · by_cases eok : plainOk L = true
    · have ga := ga eok
      rw [eok]
      walk_at "r"
      refine ⟨ta, lad, plainL L, k0, k1, p, q, .ref pa, kv, rfl, ga, wd.plain eok, dpa, fix.k, fun HC sC => ?_⟩
      walk_at "r"
      exact ⟨_, _, _, _, _, _, _, _, _, _, _, _, _, rfl, fix.same sC⟩
    · rw [Bool.not_eq_true] at eok
      rw [eok]
      walk_at "r"
      exact ⟨_, _, _, _, _, _, _, _, _, _, _, _, _, rfl, fix⟩
  clear fix dpa ga
  rintro σ HB ⟨y2, y7, y9, y10, y11, y12, y13, y14, y15, y16, y17, y18, y19, rfl, fix⟩
  have hp6 := wd.p6
  have hq6 := wd.q6
  have hp0 := wd.p0
  have hq0 := wd.q0
  walk_at "r"
  refine fix.sk.ix (k := 0) (v := .int p) rfl ?_
  walk_at "r"
  refine ⟨h, hl, p, rfl, fix.hh, ⟨by omega, Jv.log_small (by omega) (by omega)⟩, fun e HC e0 e1 kC hC => ?_⟩
  have fix := fix.kp kC hC
  clear kC hC
  walk_at "r"
  refine fix.sk.ix (k := 1) (v := .int q) rfl ?_
  walk_at "r"
  refine ⟨h, hl, q, rfl, fix.hh, ⟨by omega, Jv.log_small (by omega) (by omega)⟩, fun f HD f0 f1 kD hD => ?_⟩
  have fix := fix.kp kD hD
  clear kD hD
  walk_at "r"
  intro ca hca
  have fix := fix.same (Jv.same_new (u := .tup [.int e, .int f]) hca)
  have eca : upd HD ca (.tup [.int e, .int f]) ca = some (.tup [.int e, .int f]) := upd_same
  generalize upd HD ca (.tup [.int e, .int f]) = HE at fix eca ⊢
  clear hca
  walk_at "r"
  refine ⟨fun σ H' => ∃ y2 y7 y10 y11 y12 y14 y15 y16 y17 y18 y19 z, σ = [some (.ref sc), some (.ref h), y2, some (.ref sa), some (.int lad), some wv, some kv, y7, some (.ref a), some (.int z), y10, y11, y12, some (.ref ca), y14, y15, y16, y17, y18, y19, none, none, none, none] ∧ Fix K T.C_Goals h hl a sa lad L k0 k1 p q wv kv H' ∧ H' ca = some (.tup [.int e, .int f]) ∧ (0 ≤ e ∧ e < (p : Int)) ∧ (0 ≤ f ∧ f < (q : Int)) ∧ (-lad ≤ z ∧ z ≤ lad), ?_, ?_⟩
  · walk_at "r"
    refine ⟨h, hl, _, rfl, fix.hh, ⟨by omega, Jv.log_small (by omega) (by omega)⟩, fun z HF z0 z1 kF hF => ?_⟩
    walk_at "r"
    exact ⟨_, _, _, _, _, _, _, _, _, _, _, _, rfl, fix.kp kF hF, kF _ _ (fix.hh.neT eca) eca, ⟨e0, e1⟩, ⟨f0, f1⟩, by omega, by omega⟩
  clear fix eca e0 e1 f0 f1
  rintro σ HB ⟨y2, y7, y10, y11, y12, y14, y15, y16, y17, y18, y19, z, rfl, fix, eca, ⟨e0, e1⟩, ⟨f0, f1⟩, hz⟩
  walk_at "r"
  obtain ⟨line, a1, a2, a3, a4⟩ := wd.at ⟨e0, e1⟩ ⟨f0, f1⟩
  obtain ⟨cn0, cn1⟩ := wd.range a2 a4
  have hpL := wd.hp
  have hlq := wd.hq line a2
  obtain ⟨ws, skW, alW⟩ := fix.w.sk rfl
  have lws := alW.len
  rw [List.length_map] at lws
  obtain ⟨F, hF⟩ := Jv.rows_of alW (fun d hd => by
    obtain ⟨li, _, rfl⟩ := List.mem_map.mp hd
    rfl)
  refine Jv.lcOwn2 (K := K) (j := 20) (i := 5) rfl skW F (by omega) (fun i v D1 H6 hi hv s6 hD1 PP hP => ?_) (fun D1 As H6 s6 hD1 lA nd nD hn eD1 al => ?_)
  · obtain ⟨dl, c1, _⟩ := alW.at hv
    obtain ⟨⟨b, rfl, hb⟩, _⟩ := hF i v dl hv c1
    walk_at "r"
    refine ⟨b, _, rfl, hb.imp (fun h => s6.seq h) (fun h => Jv.Same.sqT s6 h), fun t2 ht2 => ?_⟩
    exact hP t2 _ ht2 (Jv.same_new ht2) upd_same
  have heL : e.toNat < As.length := by omega
  obtain ⟨b, hbA⟩ : ∃ b, As[e.toNat]? = some b := ⟨_, List.getElem?_eq_getElem heL⟩
  have hbm := List.mem_of_getElem? hbA
  have eb := al _ b hbA
  have hwe : e.toNat < ws.length := by omega
  obtain ⟨_, es, he1, he2⟩ := hF e.toNat ws[e.toNat] (lineT line) (List.getElem?_eq_getElem hwe) (by rw [List.getElem?_map, a1]; rfl)
  cases he1
  have lF := he2.len
  rw [List.length_map] at lF
  obtain ⟨cv, c1, c2⟩ := he2.of (i := f.toNat) (d := .tuple ((cell L e f).map .int)) (by rw [List.getElem?_map, a3]; rfl)
  have skA : Jv.Sk K H6 (.ref D1) (As.map V.ref) := ⟨D1, rfl, .inl (Jv.sqL_at eD1)⟩
  have atA : (As.map V.ref)[e.toNat]? = some (V.ref b) := by rw [List.getElem?_map, hbA]; rfl
  have eca6 := s6 _ _ eca
  have skC : Jv.Sk K H6 (.ref ca) [.int e, .int f] := ⟨ca, rfl, .inr (Jv.sqT_at eca6)⟩
  walk_at "r"
  refine skC.ix (k := 0) (v := .int e) rfl ?_
  walk_at "r"
  refine skA.ix (Jv.at_i e0 atA) ?_
  walk_at "r"
  refine skC.ix (k := 1) (v := .int f) rfl ?_
  walk_at "r"
  refine Jv.Sk.ix (xs := F e.toNat) ⟨b, rfl, .inl (Jv.sqL_at eb)⟩ (Jv.at_i f0 c1) ?_
  walk_at "r"
  intro t2 ht2
  obtain ⟨cc, rfl, hcc⟩ : ∃ cc, cv = .ref cc ∧ SqT K HB cc ((cell L e f).map V.int) := by
    cases c2 with
    | tup h qd => rw [Jv.dv_intsV qd] at h; exact ⟨_, rfl, h⟩
  have s62 := s6.trans (Jv.same_new (u := .tup [.int z]) ht2)
  have cne : (cell L e f) ≠ [] := (wd.ends line a2 _ a4).1
  have f15 := neat_len (l := lad) (ns := cell L e f) (by omega)
  rw [(wd.ends line a2 _ a4).2] at f15
  walk_at "r"
  refine ⟨cc, t2, _, [.int z], rfl, rfl, Jv.Same.sqT s62 hcc, Jv.sqT_at upd_same, fun hh => cne (List.map_eq_nil_iff.mp hh), ?_, fun hh => (by cases hh), fun _ t3 ht3 => ?_⟩
  · rw [List.length_map]
    exact Jv.small_of (by simp; omega)
  have s63 := (Jv.same_new (u := .tup [.int z]) ht2).trans (Jv.same_new (u := .tup ((cell L e f).map V.int ++ [.int z])) ht3)
  walk_at "r"
  refine ⟨.ref t3, cell L e f ++ [z], lad, rfl, ⟨t3, rfl, .inr (Jv.sqT_at (by rw [upd_same, List.map_append]; rfl))⟩, ⟨by omega, by omega⟩, by rw [List.length_append]; simp; omega, fun t4 H7 s7 n7 e7 => ?_⟩
  have s67 := s63.trans s7
  have n74 : H6 t4 = none := s63.free n7
  have eD7 := s67 _ _ eD1
  have eb7 := s67 _ _ eb
  have eca7 := s67 _ _ eca6
  have skC7 : Jv.Sk K H7 (.ref ca) [.int e, .int f] := ⟨ca, rfl, .inr (Jv.sqT_at eca7)⟩
  walk_at "r"
  refine skC7.ix (k := 0) (v := .int e) rfl ?_
  walk_at "r"
  refine Jv.Sk.ix (xs := As.map V.ref) ⟨D1, rfl, .inl (Jv.sqL_at eD7)⟩ (Jv.at_i e0 atA) ?_
  walk_at "r"
  refine skC7.ix (k := 1) (v := .int f) rfl ?_
  walk_at "r"
  refine Jv.r_setL eb7 (j := f.toNat) (by rw [← Int.toNat_of_nonneg f0]; exact Jv.ixN_of (by omega)) ?_
  have bD : b ≠ D1 := fun hh => nD (hh ▸ hbm)
  have b4 : t4 ≠ b := fun hh => by rw [hh, eb] at n74; cases n74
  have s17 : Same HB (upd H7 b (.lst ((F e.toNat).set f.toNat (.ref t4)))) := fun c o hc => by
    have hcb : c ≠ b := fun hh => by rw [hh, hn b hbm] at hc; cases hc
    rw [upd_ne hcb]
    exact s67 _ _ (s6 _ _ hc)
  have dv1 : Jv.Dv K (upd H7 b (.lst ((F e.toNat).set f.toNat (.ref t4)))) (.ref D1) (wantS (putL L e f (neatI lad (cell L e f ++ [z])))) := put_dv a1 (by omega) lws hF hbA nd s17 (by rw [upd_ne bD.symm]; exact eD7) (by rw [upd_ne b4]; exact e7) (fun k c hc nb => by rw [upd_ne nb]; exact s67 _ _ (al k c hc)) upd_same (by omega)
  have fix8 := fix.same s17
  have eca8 := s17 _ _ eca
  generalize upd H7 b (.lst ((F e.toNat).set f.toNat (.ref t4))) = H8 at dv1 fix8 eca8 ⊢
  clear s17 b4 bD skC7 eca7 eb7 eD7 n74 s67 n7 e7 s7 s63 s62 hcc c1 c2 skC eca6 atA skA he2 lF eb hbA al eD1 hn nD nd lA hD1 s6 hF lws alW skW fix eca
  walk_at "r"
  refine ⟨fun σ H' => ∃ y2 y7 y10 y11 y12 y14 y16 y17 y18 y19 da, σ = [some (.ref sc), some (.ref h), y2, some (.ref sa), some (.int lad), some wv, some kv, y7, some (.ref a), some (.int z), y10, y11, y12, some (.ref ca), y14, some (.ref da), y16, y17, y18, y19, none, none, none, none] ∧ Fix K T.C_Goals h hl a sa lad L k0 k1 p q wv kv H' ∧ H' ca = some (.tup [.int e, .int f]) ∧ (0 ≤ e ∧ e < (p : Int)) ∧ (0 ≤ f ∧ f < (q : Int)) ∧ (-lad ≤ z ∧ z ≤ lad) ∧ Jv.Dv K H' (.ref da) (wantT (putL L e f (neatI lad (cell L e f ++ [z])))), ?_, ?_⟩
  · obtain ⟨xs, skX, alX⟩ := dv1.sk rfl
    have lxs := alX.len
    rw [List.length_map] at lxs
    have lput : (putL L e f (neatI lad (cell L e f ++ [z]))).length = p := by unfold putL; rw [List.length_set, hpL]
    walk_at "r"
    refine Jv.lcS2 (K := K) (N := []) (j := 20) (i := 14) rfl skX .nil ((putL L e f (neatI lad (cell L e f ++ [z]))).map lineT) (by rw [List.length_map]; omega) (by omega) (fun i v e1' D2 HC hi hv he s6 hN1 hD2 PP hP => ?_) (fun D2 ys HC s6 hD2 eD2 dv2 _ => ?_)
    · obtain ⟨dl, c1, c2⟩ := alX.at hv
      rw [List.getElem?_map] at c1
      obtain ⟨li, c3, rfl⟩ := Option.map_eq_some_iff.mp c1
      have ee : e1' = lineT li := by
        rw [List.getElem?_map, c3] at he
        exact (Option.some.inj he).symm
      subst ee
      have c2h : Jv.Dv K (Jv.hide [] H8) v (.list (li.map fun ns => .tuple (ns.map .int))) := by rw [Jv.hide_nil]; exact c2
      obtain ⟨lb, us, rfl, elb, alU⟩ : ∃ lb us, v = .ref lb ∧ Jv.hide [D2] HC lb = some (.lst us) ∧ Jv.DvAll K (Jv.hide [D2] HC) us (li.map fun ns => .tuple (ns.map .int)) := by
        cases c2h.same (Jv.hide_more s6 hD2) with
        | lst h q => exact ⟨_, _, rfl, h, q⟩
      walk_at "r"
      refine ⟨lb, _, rfl, .inl ⟨Jv.sqL_at (Jv.hide_some elb).2, fun t2 ht2 => ?_⟩⟩
      exact hP _ _ (Jv.same_new ht2) (Jv.dv_new ht2 hN1 alU)
    · walk_at "r"
      refine ⟨D2, _, rfl, .inl ⟨Jv.sqL_at eD2, fun da hda => ?_⟩⟩
      rw [Jv.hide_nil] at dv2
      have s6n := s6.trans (Jv.same_new (u := .tup ys) hda)
      walk_at "r"
      exact ⟨_, _, _, _, _, _, _, _, _, _, _, rfl, fix8.same s6n, s6n _ _ eca8, ⟨e0, e1⟩, ⟨f0, f1⟩, hz, .tup (Jv.sqT_at upd_same) (dv2.same (Jv.same_new hda))⟩
  clear dv1 fix8 eca8
  rintro σ HB ⟨y2, y7, y10, y11, y12, y14, y16, y17, y18, y19, da, rfl, fix, eca, _, _, _, dda⟩
  walk_at "r"
  refine ⟨fun σ H' => ∃ y2 y7 y9 y10 y11 y12 y14 y15 y16 y17 y18 y19, σ = [some (.ref sc), some (.ref h), y2, some (.ref sa), some (.int lad), some wv, some kv, y7, some (.ref a), y9, y10, y11, y12, some (.ref ca), y14, y15, y16, y17, y18, y19, none, none, none, none] ∧ Fix K T.C_Goals h hl a sa lad L k0 k1 p q wv kv H' ∧ H' ca = some (.tup [.int e, .int f]) ∧ (0 ≤ e ∧ e < (p : Int)) ∧ (0 ≤ f ∧ f < (q : Int)), ?_, ?_⟩
  · have wdp : Wd lad (putL L e f (neatI lad (cell L e f ++ [z]))) p q := wd.putW ⟨e0, e1⟩ ⟨f0, f1⟩ (by simp) (by rw [List.length_append]; simp; omega) fun n hn => by
      rcases List.mem_append.mp hn with hn | hn
      · exact cn1 n hn
      · rw [List.mem_singleton.mp hn]; exact hz
    walk_at "r"
    refine ⟨ca, _, rfl, .inr (Jv.sqT_at eca), fun t ht => ?_⟩
    have sB1 := Jv.same_new (u := .lst [.int e, .int f]) ht
    walk_at "r"
    refine ⟨a, .ref t, .int z, lad, L, k0, k1, p, q, .list [.int e, .int f], .int z, rfl, (fix.same sB1).g, wd, .lst upd_same (.cons (.int _) (.cons (.int _) .nil)), .int _, .inl ⟨e, f, z, rfl, ⟨e0, e1⟩, ⟨f0, f1⟩, rfl, hz, fun r HC sC ga => ?_⟩⟩
    have sBC := sB1.trans sC
    walk_at "r"
    refine ⟨r, lad, putL L e f (neatI lad (cell L e f ++ [z])), k0, k1, p, q, .ref da, kv, rfl, ga, wdp, dda.same sBC, (fix.same sBC).k, fun HD sD => ?_⟩
    walk_at "r"
    exact ⟨_, _, _, _, _, _, _, _, _, _, _, _, rfl, fix.same (sBC.trans sD), (sBC.trans sD) _ _ eca, ⟨e0, e1⟩, ⟨f0, f1⟩⟩
  clear fix eca dda hlq cn0 cn1 f15 cne hz
  rintro σ HB ⟨y2, y7, y9, y10, y11, y12, y14, y15, y16, y17, y18, y19, rfl, fix, eca, _, _⟩
  walk_at "r"
  refine ⟨fun σ H' => ∃ y2 y7 y9 y10 y11 y12 y13 y14 y15 y16 y17 y18 y19, σ = [some (.ref sc), some (.ref h), y2, some (.ref sa), some (.int lad), some wv, some kv, y7, some (.ref a), y9, y10, y11, y12, y13, y14, y15, y16, y17, y18, y19, none, none, none, none] ∧ Fix K T.C_Goals h hl a sa lad L k0 k1 p q wv kv H', ?_, ?_⟩
  · walk_at "r"
    intro t ht
    have fix1 := fix.same (Jv.same_new (u := .tup [.int (lad + 1), .int (-lad - 1), .bl true, .non]) ht)
    have eca1 := (Jv.same_new (u := .tup [.int (lad + 1), .int (-lad - 1), .bl true, .non]) ht) _ _ eca
    have et : upd HB t (.tup [.int (lad + 1), .int (-lad - 1), .bl true, .non]) t = some (.tup [.int (lad + 1), .int (-lad - 1), .bl true, .non]) := upd_same
    generalize upd HB t (.tup [.int (lad + 1), .int (-lad - 1), .bl true, .non]) = HC at fix1 eca1 et ⊢
    walk_at "r"
    refine ⟨t, rfl, ⟨_, Jv.sqT_at et⟩, ?_⟩
    refine for_tup (xs := [.int (lad + 1), .int (-lad - 1), .bl true, .non]) (fun i σ H' => ∃ y2 y7 y9 y10 y11 y12 y14 y15 y16 y17 y18 y19, σ = [some (.ref sc), some (.ref h), y2, some (.ref sa), some (.int lad), some wv, some kv, y7, some (.ref a), y9, y10, y11, y12, some (.ref ca), y14, y15, y16, y17, y18, y19, none, none, none, none] ∧ Fix K T.C_Goals h hl a sa lad L k0 k1 p q wv kv H' ∧ H' t = some (.tup [.int (lad + 1), .int (-lad - 1), .bl true, .non]) ∧ H' ca = some (.tup [.int e, .int f])) ⟨_, _, _, _, _, _, _, _, _, _, _, _, rfl, fix1, et, eca1⟩ (fun i σ H' _ hx => by
      obtain ⟨y2, y7, y9, y10, y11, y12, y14, y15, y16, y17, y18, y19, rfl, _, et, _⟩ := hx
      exact Jv.sqT_at et) ?_ ?_
    · clear fix1 et eca1 ht fix eca
      rintro j v σ HC hv ⟨y2, y7, y9, y10, y11, y12, y14, y15, y16, y17, y18, y19, rfl, fix, et, eca⟩
      obtain ⟨d, dd, hd⟩ : ∃ d, (∀ HX : Hp, Jv.Dv K HX v d) ∧ Jv.wholeD d (.int (-lad)) (.int lad) = false := by
        match j, hv with
        | 0, hv =>
          cases hv
          exact ⟨.int (lad + 1), fun _ => .int _, show (decide (-lad ≤ lad + 1) && decide (lad + 1 ≤ lad)) = false by rw [decide_eq_false (p := lad + 1 ≤ lad) (by omega), Bool.and_false]⟩
        | 1, hv =>
          cases hv
          exact ⟨.int (-lad - 1), fun _ => .int _, show (decide (-lad ≤ -lad - 1) && decide (-lad - 1 ≤ lad)) = false by rw [decide_eq_false (p := -lad ≤ -lad - 1) (by omega), Bool.false_and]⟩
        | 2, hv =>
          cases hv
          exact ⟨.bool true, fun _ => .bl _, rfl⟩
        | 3, hv =>
          cases hv
          exact ⟨.none, fun _ => .non, rfl⟩
      walk_at "r"
      refine ⟨a, .ref ca, v, lad, L, k0, k1, p, q, .tuple [.int e, .int f], d, rfl, fix.g, wd, .tup (Jv.sqT_at eca) (.cons (.int _) (.cons (.int _) .nil)), dd _, .inr (.inr ⟨e, f, rfl, ⟨e0, e1⟩, ⟨f0, f1⟩, hd, fun r HD sD er => ?_⟩)⟩
      walk_at "r"
      intro u hu
      walk_at "r"
      refine word_end.ne (Jv.kp er hu) upd_same ?_
      have sCE := sD.trans (Jv.same_new (u := .lst [.str "end"]) hu)
      generalize upd HD u (.lst [.str "end"]) = HE at sCE ⊢
      walk_at "r"
      refine (fix.same sCE).sk.ix (k := 0) (v := .int p) rfl ?_
      walk_at "r"
      intro t2 ht2
      have sCF := sCE.trans (Jv.same_new (u := .tup [.int p, .int 0]) ht2)
      have et2 : upd HE t2 (.tup [.int p, .int 0]) t2 = some (.tup [.int p, .int 0]) := upd_same
      generalize upd HE t2 (.tup [.int p, .int 0]) = HF at sCF et2 ⊢
      walk_at "r"
      have hcp : coupleD p q (.tuple [.int p, .int 0]) = false := by
        show ((decide ((0 : Int) ≤ p) && decide ((p : Int) ≤ p - 1)) && _) = false
        rw [decide_eq_false (p := (p : Int) ≤ p - 1) (by omega), Bool.and_false, Bool.false_and]
      refine ⟨a, .ref t2, v, lad, L, k0, k1, p, q, .tuple [.int p, .int 0], d, rfl, (fix.same sCF).g, wd, .tup (Jv.sqT_at et2) (.cons (.int _) (.cons (.int _) .nil)), dd _, .inr (.inl ⟨hcp, fun r2 HG sG er2 => ?_⟩)⟩
      walk_at "r"
      intro u2 hu2
      walk_at "r"
      refine word_couple.ne (Jv.kp er2 hu2) upd_same ?_
      have sCH := (sCF.trans sG).trans (Jv.same_new (u := .lst [.str "couple"]) hu2)
      walk_at "r"
      exact ⟨_, _, _, _, _, _, _, _, _, _, _, _, rfl, fix.same sCH, sCH _ _ et, sCH _ _ eca⟩
    · rintro σ HC ⟨y2, y7, y9, y10, y11, y12, y14, y15, y16, y17, y18, y19, rfl, fix, et, eca⟩
      exact ⟨_, _, _, _, _, _, _, _, _, _, _, _, _, rfl, fix⟩
  clear fix eca
  rintro σ HB ⟨y2, y7, y9, y10, y11, y12, y13, y14, y15, y16, y17, y18, y19, rfl, fix⟩
  walk_at "r"
  refine r_tupRg2 ?_
  walk_at "r"
  have rok : RgOk (-lad) (lad + 1) := ⟨by omega, by omega, by omega, by omega, by omega⟩
  refine ⟨-lad, lad + 1, rfl, rfl, rok, fun ev hev => ?_⟩
  rw [rg_range]
  have fix := fix.same (Jv.same_new (u := .tup ((rangeL lad).map V.int)) hev)
  have eev : upd HB ev (.tup ((rangeL lad).map V.int)) ev = some (.tup ((rangeL lad).map V.int)) := upd_same
  generalize upd HB ev (.tup ((rangeL lad).map V.int)) = HC at fix eev ⊢
  clear hev rok
  walk_at "r"
  refine ⟨fun σ H' => ∃ y2 y7 y9 y10 y11 y12 y13 y14 y15 y16 y17 y19 fa, σ = [some (.ref sc), some (.ref h), y2, some (.ref sa), some (.int lad), some wv, some kv, y7, some (.ref a), y9, y10, y11, y12, y13, y14, y15, y16, y17, some (.ref fa), y19, none, none, none, none] ∧ Fix K T.C_Goals h hl a sa lad L k0 k1 p q wv kv H' ∧ Jv.Dv K H' (.ref fa) (wantT (fullL lad p q)), ?_, ?_⟩
  · walk_at "r"
    refine Jv.lcRg (K := K) (N := []) (j := 21) (m := (p : Int)) (fun P hP => ?_) ⟨by omega, by omega⟩ .nil ((fullL lad p q).map lineT) (by rw [List.length_map]; unfold fullL; rw [List.length_replicate, Int.toNat_natCast]) (fun i e1' D1 HD hi he s6 hN1 hD1 PP hP => ?_) (fun D1 ys HD s6 hD1 eD1 dv1 _ => ?_)
    · walk_at "r"
      refine fix.sk.ix (k := 0) (v := .int p) rfl ?_
      exact hP
    · have ee : e1' = lineT (List.replicate q (rangeL lad)) := by
        unfold fullL at he
        rw [List.getElem?_map] at he
        obtain ⟨x, hx, rfl⟩ := Option.map_eq_some_iff.mp he
        rw [List.eq_of_mem_replicate (List.mem_of_getElem? hx)]
      subst ee
      have eev6 := s6 _ _ eev
      walk_at "r"
      refine Jv.lcRg (K := K) (N := [D1]) (j := 23) (m := (q : Int)) (fun P hP => ?_) ⟨by omega, by omega⟩ hN1 ((List.replicate q (rangeL lad)).map fun ns => .tuple (ns.map .int)) (by rw [List.length_map, List.length_replicate, Int.toNat_natCast]) (fun i2 e2' D2 HE hi2 he2 s7 hN2 hD2 PP2 hP2 => ?_) (fun D2 ys2 HE s7 hD2 eD2 dv2 _ => ?_)
      · walk_at "r"
        refine (fix.same s6).sk.ix (k := 1) (v := .int q) rfl ?_
        exact hP
      · have ee2 : e2' = .tuple ((rangeL lad).map .int) := by
          rw [List.getElem?_map] at he2
          obtain ⟨x, hx, rfl⟩ := Option.map_eq_some_iff.mp he2
          rw [List.eq_of_mem_replicate (List.mem_of_getElem? hx)]
        subst ee2
        walk_at "r"
        exact hP2 _ _ (Same.refl _) (.tup (Jv.sqT_at (Jv.hide_at (fun m => by
          rcases List.mem_cons.mp m with rfl | m
          · rw [hD2] at eev6; cases eev6
          · rw [List.mem_singleton.mp m, hD1] at eev; cases eev) (s7 _ _ eev6))) (Jv.dv_ints _))
      · walk_at "r"
        refine ⟨D2, _, rfl, .inl ⟨Jv.sqL_at eD2, fun t2 ht2 => ?_⟩⟩
        exact hP _ _ (s7.trans (Jv.same_new ht2)) (Jv.dv_new ht2 (hN1.same s7) dv2)
    · walk_at "r"
      refine ⟨D1, _, rfl, .inl ⟨Jv.sqL_at eD1, fun fa hfa => ?_⟩⟩
      rw [Jv.hide_nil] at dv1
      walk_at "r"
      exact ⟨_, _, _, _, _, _, _, _, _, _, _, _, _, rfl, fix.same (s6.trans (Jv.same_new hfa)), .tup (Jv.sqT_at upd_same) (dv1.same (Jv.same_new hfa))⟩
  clear fix eev
  rintro σ HB ⟨y2, y7, y9, y10, y11, y12, y13, y14, y15, y16, y17, y19, fa, rfl, fix, dfa⟩
  have wdf := full_wd z0 (by omega) hp.1 hp.2 hq.1 hq.2 hpq
  walk_at "r"
  refine ⟨fun σ H' => ∃ y2 y7 y9 y10 y11 y12 y13 y14 y15 y16 y17 y19, σ = [some (.ref sc), some (.ref h), y2, some (.ref sa), some (.int lad), some wv, some kv, y7, some (.ref a), y9, y10, y11, y12, y13, y14, y15, y16, y17, some (.ref fa), y19, none, none, none, none] ∧ Fix K T.C_Goals h hl a sa lad L k0 k1 p q wv kv H' ∧ Jv.Dv K H' (.ref fa) (wantT (fullL lad p q)), ?_, ?_⟩
  · walk_at "r"
    refine ⟨sa, _, rfl, .inr (Jv.sqT_at fix.hs), fun t ht => ?_⟩
    have sB1 := Jv.same_new (u := .lst [.int p, .int q]) ht
    walk_at "r"
    refine ⟨.ref t, .int lad, kv, .list [.int p, .int q], .int lad, .tuple [.bool k0, .bool k1], rfl, .lst upd_same (.cons (.int _) (.cons (.int _) .nil)), .int _, (fix.same sB1).k, .inl ⟨lad, k0, k1, p, q, rfl, ⟨by omega, by omega⟩, rfl, hp, hq, hpq, rfl, fun r HC sC ga => ?_⟩⟩
    have sBC := sB1.trans sC
    walk_at "r"
    refine ⟨r, lad, fullL lad p q, k0, k1, p, q, .ref fa, kv, rfl, ga, wdf, dfa.same sBC, (fix.same sBC).k, fun HD sD => ?_⟩
    walk_at "r"
    exact ⟨_, _, _, _, _, _, _, _, _, _, _, _, rfl, fix.same (sBC.trans sD), dfa.same (sBC.trans sD)⟩
  clear fix dfa
  rintro σ HB ⟨y2, y7, y9, y10, y11, y12, y13, y14, y15, y16, y17, y19, rfl, fix, dfa⟩
  walk_at "r"
  refine ⟨fun σ H' => ∃ y2 y7 y9 y10 y11 y12 y13 y14 y15 y16 y17 y18 y19, σ = [some (.ref sc), some (.ref h), y2, some (.ref sa), some (.int lad), some wv, some kv, y7, some (.ref a), y9, y10, y11, y12, y13, y14, y15, y16, y17, y18, y19, none, none, none, none] ∧ Fix K T.C_Goals h hl a sa lad L k0 k1 p q wv kv H', ?_, ?_⟩
  · walk_at "r"
    refine r_smeth ?_
    walk_at "r"
    refine ⟨.ref sa, .int lad, .ref T.w0_Goals_all_wanted, .tuple [.int p, .int q], .int lad, .tuple [.bool false, .bool false], rfl, .tup (Jv.sqT_at fix.hs) (.cons (.int _) (.cons (.int _) .nil)), .int _, .tup (O.y0_Goals_all_wanted _) (.cons (.bl _) (.cons (.bl _) .nil)), .inl ⟨lad, false, false, p, q, rfl, ⟨by omega, by omega⟩, rfl, hp, hq, hpq, rfl, fun r HC sC ga => ?_⟩⟩
    walk_at "r"
    intro t ht
    have sBD := sC.trans (Jv.same_new (u := .tup [.bl false, .bl false]) ht)
    walk_at "r"
    refine ⟨r, lad, fullL lad p q, false, false, p, q, .ref fa, .ref t, rfl, ga.same (Jv.same_new ht), wdf, dfa.same sBD, .tup (Jv.sqT_at upd_same) (.cons (.bl _) (.cons (.bl _) .nil)), fun HD sD => ?_⟩
    walk_at "r"
    exact ⟨_, _, _, _, _, _, _, _, _, _, _, _, _, rfl, fix.same (sBD.trans sD)⟩
  clear fix dfa
  rintro σ HB ⟨y2, y7, y9, y10, y11, y12, y13, y14, y15, y16, y17, y18, y19, rfl, fix⟩
  walk_at "r"
  intro b0 hb0
  have fix := fix.same (Jv.same_new (u := .lst [.int 7, .int (-1), .bl true, .non]) hb0)
  have y0' : upd HB b0 (.lst [.int 7, .int (-1), .bl true, .non]) b0 = some (.lst [.int 7, .int (-1), .bl true, .non]) := upd_same
  generalize upd HB b0 (.lst [.int 7, .int (-1), .bl true, .non]) = HC at fix y0' ⊢
  have n0 : b0 ≠ h := fun eh => by
    obtain ⟨ms, c1, c2, c3, hAt⟩ := fix.hh
    rw [eh, hAt.hp] at y0'
    cases y0'
  walk_at "r"
  refine ⟨h, hl, _, rfl, fix.hh, ⟨by decide, Jv.log_small (by decide) (by decide)⟩, fun z HD w0 w1 kD hD => ?_⟩
  have y0' := kD _ _ n0 y0'
  have fix := fix.kp kD hD
  have hbad : ∃ v d, atI [V.int 7, .int (-1), .bl true, .non] z = some v ∧ (∀ HX : Hp, Jv.Dv K HX v d) ∧ Jv.wholeD d (.int 0) (.int 6) = false := by
    have hz : z = 0 ∨ z = 1 ∨ z = 2 ∨ z = 3 := by omega
    rcases hz with rfl | rfl | rfl | rfl
    · exact ⟨_, .int 7, rfl, fun _ => .int _, rfl⟩
    · exact ⟨_, .int (-1), rfl, fun _ => .int _, rfl⟩
    · exact ⟨_, .bool true, rfl, fun _ => .bl _, rfl⟩
    · exact ⟨_, .none, rfl, fun _ => .non, rfl⟩
  obtain ⟨bad, bd, eb, db, wb⟩ := hbad
  refine Jv.r_ixL (Jv.sqL_at y0') eb ?_
  clear eb y0' n0 hb0 kD hD
  walk_at "r"
  refine ⟨fun σ H' => ∃ y2 y7 y9 y10 y11 y12 y13 y14 y15 y17 y18 bad shp bd sd, σ = [some (.ref sc), some (.ref h), y2, some (.ref sa), some (.int lad), some wv, some kv, y7, some (.ref a), y9, y10, y11, y12, y13, y14, y15, some bad, y17, y18, some shp, none, none, none, none] ∧ Fix K T.C_Goals h hl a sa lad L k0 k1 p q wv kv H' ∧ (∀ HX : Hp, Jv.Dv K HX bad bd) ∧ Jv.wholeD bd (.int 0) (.int 6) = false ∧ Jv.Dv K H' shp sd ∧ Jv.sidesD sd = false, ?_, ?_⟩
  · walk_at "r"
    intro b1 hb1
    have s1 : Same HD (upd HD b1 (.tup [.int 4, .int 4])) := Jv.same_new hb1
    have m1 : upd HD b1 (.tup [.int 4, .int 4]) b1 = some (.tup [.int 4, .int 4]) := upd_same
    generalize upd HD b1 (.tup [.int 4, .int 4]) = H1 at s1 m1 ⊢
    walk_at "r"
    intro b2 hb2
    have s2 := s1.trans (Jv.same_new (u := .tup [.int 0, .int 1]) hb2)
    have m1 := Jv.kp (u := .tup [.int 0, .int 1]) m1 hb2
    have m2 : upd H1 b2 (.tup [.int 0, .int 1]) b2 = some (.tup [.int 0, .int 1]) := upd_same
    generalize upd H1 b2 (.tup [.int 0, .int 1]) = H2 at s2 m1 m2 ⊢
    walk_at "r"
    intro b3 hb3
    have s3 := s2.trans (Jv.same_new (u := .tup [.int 7, .int 1]) hb3)
    have m1 := Jv.kp (u := .tup [.int 7, .int 1]) m1 hb3
    have m2 := Jv.kp (u := .tup [.int 7, .int 1]) m2 hb3
    have m3 : upd H2 b3 (.tup [.int 7, .int 1]) b3 = some (.tup [.int 7, .int 1]) := upd_same
    generalize upd H2 b3 (.tup [.int 7, .int 1]) = H3 at s3 m1 m2 m3 ⊢
    walk_at "r"
    intro b4 hb4
    have s4 := s3.trans (Jv.same_new (u := .tup [.int 1, .int 1, .int 1]) hb4)
    have m1 := Jv.kp (u := .tup [.int 1, .int 1, .int 1]) m1 hb4
    have m2 := Jv.kp (u := .tup [.int 1, .int 1, .int 1]) m2 hb4
    have m3 := Jv.kp (u := .tup [.int 1, .int 1, .int 1]) m3 hb4
    have m4 : upd H3 b4 (.tup [.int 1, .int 1, .int 1]) b4 = some (.tup [.int 1, .int 1, .int 1]) := upd_same
    generalize upd H3 b4 (.tup [.int 1, .int 1, .int 1]) = H4 at s4 m1 m2 m3 m4 ⊢
    walk_at "r"
    intro b5 hb5
    have s5 := s4.trans (Jv.same_new (u := .lst [.ref b1, .ref b2, .non, .ref b3, .ref b4]) hb5)
    have m1 := Jv.kp (u := .lst [.ref b1, .ref b2, .non, .ref b3, .ref b4]) m1 hb5
    have m2 := Jv.kp (u := .lst [.ref b1, .ref b2, .non, .ref b3, .ref b4]) m2 hb5
    have m3 := Jv.kp (u := .lst [.ref b1, .ref b2, .non, .ref b3, .ref b4]) m3 hb5
    have m4 := Jv.kp (u := .lst [.ref b1, .ref b2, .non, .ref b3, .ref b4]) m4 hb5
    have m5 : upd H4 b5 (.lst [.ref b1, .ref b2, .non, .ref b3, .ref b4]) b5 = some (.lst [.ref b1, .ref b2, .non, .ref b3, .ref b4]) := upd_same
    generalize upd H4 b5 (.lst [.ref b1, .ref b2, .non, .ref b3, .ref b4]) = H5 at s5 m1 m2 m3 m4 m5 ⊢
    have fix := fix.same s5
    have n5 : b5 ≠ h := fun eh => by
      obtain ⟨ms, c1, c2, c3, hAt⟩ := fix.hh
      rw [eh, hAt.hp] at m5
      cases m5
    walk_at "r"
    refine ⟨h, hl, _, rfl, fix.hh, ⟨by decide, Jv.log_small (by decide) (by decide)⟩, fun u HE u0 u1 kE hE => ?_⟩
    have m5 := kE _ _ n5 m5
    have hshp : ∃ v d, atI [V.ref b1, .ref b2, .non, .ref b3, .ref b4] u = some v ∧ Jv.Dv K HE v d ∧ Jv.sidesD d = false := by
      have hu : u = 0 ∨ u = 1 ∨ u = 2 ∨ u = 3 ∨ u = 4 := by omega
      rcases hu with rfl | rfl | rfl | rfl | rfl
      · exact ⟨_, .tuple [.int 4, .int 4], rfl, .tup (Jv.sqT_at (kE _ _ (fix.hh.neT m1) m1)) (.cons (.int _) (.cons (.int _) .nil)), rfl⟩
      · exact ⟨_, .tuple [.int 0, .int 1], rfl, .tup (Jv.sqT_at (kE _ _ (fix.hh.neT m2) m2)) (.cons (.int _) (.cons (.int _) .nil)), rfl⟩
      · exact ⟨_, .none, rfl, .non, rfl⟩
      · exact ⟨_, .tuple [.int 7, .int 1], rfl, .tup (Jv.sqT_at (kE _ _ (fix.hh.neT m3) m3)) (.cons (.int _) (.cons (.int _) .nil)), rfl⟩
      · exact ⟨_, .tuple [.int 1, .int 1, .int 1], rfl, .tup (Jv.sqT_at (kE _ _ (fix.hh.neT m4) m4)) (.cons (.int _) (.cons (.int _) (.cons (.int _) .nil))), rfl⟩
    obtain ⟨shp, sd, es, ds, ws'⟩ := hshp
    refine Jv.r_ixL (Jv.sqL_at m5) es ?_
    walk_at "r"
    exact ⟨_, _, _, _, _, _, _, _, _, _, _, _, _, _, _, rfl, fix.kp kE hE, db, wb, ds, ws'⟩
  clear fix db wb
  rintro σ HB ⟨y2, y7, y9, y10, y11, y12, y13, y14, y15, y17, y18, bad, shp, bd, sd, rfl, fix, db, wb, dsh, wsh⟩
  have wlad : Jv.wholeD (.int lad) (.int 0) (.int 6) = true := by
    show (decide (0 ≤ lad) && decide (lad ≤ 6)) = true
    rw [decide_eq_true z0, decide_eq_true (by omega)]; rfl
  walk_at "r"
  refine ⟨fun σ H' => ∃ y2 y7 y9 y10 y11 y12 y13 y14 y15 y16 y17 y18 y19, σ = [some (.ref sc), some (.ref h), y2, some (.ref sa), some (.int lad), some wv, some kv, y7, some (.ref a), y9, y10, y11, y12, y13, y14, y15, y16, y17, y18, y19, none, none, none, none] ∧ Fix K T.C_Goals h hl a sa lad L k0 k1 p q wv kv H', ?_, ?_⟩
  · walk_at "r"
    refine ⟨shp, bad, .non, sd, bd, .none, rfl, dsh, db _, .non, .inr (.inl ⟨wb, fun r HC sC er => ?_⟩)⟩
    walk_at "r"
    intro u hu
    walk_at "r"
    refine word_ladder.ne (Jv.kp er hu) upd_same ?_
    have sBD := sC.trans (Jv.same_new (u := .lst [.str "goals", .str "ladder"]) hu)
    generalize upd HC u (.lst [.str "goals", .str "ladder"]) = HD at sBD ⊢
    walk_at "r"
    refine ⟨shp, .int lad, .non, sd, .int lad, .none, rfl, dsh.same sBD, .int _, .non, .inr (.inr (.inl ⟨wlad, wsh, fun r2 HE sE er2 => ?_⟩))⟩
    walk_at "r"
    intro u2 hu2
    walk_at "r"
    refine word_sides.ne (Jv.kp er2 hu2) upd_same ?_
    walk_at "r"
    exact ⟨_, _, _, _, _, _, _, _, _, _, _, _, _, rfl, fix.same ((sBD.trans sE).trans (Jv.same_new hu2))⟩
  clear fix db wb dsh wsh
  rintro σ HB ⟨y2, y7, y9, y10, y11, y12, y13, y14, y15, y16, y17, y18, y19, rfl, fix⟩
  walk_at "r"
  refine ⟨fun σ H' => ∃ y2 y7 y9 y10 y11 y12 y13 y14 y15 y16 y17 y18 y19, σ = [some (.ref sc), some (.ref h), y2, some (.ref sa), some (.int lad), some wv, some kv, y7, some (.ref a), y9, y10, y11, y12, y13, y14, y15, y16, y17, y18, y19, none, none, none, none] ∧ Fix K T.C_Goals h hl a sa lad L k0 k1 p q wv kv H', ?_, ?_⟩
  · walk_at "r"
    intro t ht
    have s1 := Jv.same_new (u := .tup [.bl true, .int 1]) ht
    walk_at "r"
    refine ⟨.ref sa, .int lad, .ref t, .tuple [.int p, .int q], .int lad, .tuple [.bool true, .int 1], rfl, .tup (Jv.sqT_at (s1 _ _ fix.hs)) (.cons (.int _) (.cons (.int _) .nil)), .int _, .tup (Jv.sqT_at upd_same) (.cons (.bl _) (.cons (.int _) .nil)), .inr (.inr (.inr ⟨lad, p, q, rfl, ⟨by omega, by omega⟩, rfl, hp, hq, hpq, rfl, fun r HC sC er => ?_⟩))⟩
    walk_at "r"
    intro u hu
    walk_at "r"
    refine word_knows.ne (Jv.kp er hu) upd_same ?_
    walk_at "r"
    exact ⟨_, _, _, _, _, _, _, _, _, _, _, _, _, rfl, fix.same ((s1.trans sC).trans (Jv.same_new hu))⟩
  clear fix
  rintro σ HB ⟨y2, y7, y9, y10, y11, y12, y13, y14, y15, y16, y17, y18, y19, rfl, fix⟩
  walk_at "r"
  refine ⟨a, lad, L, k0, k1, p, q, wv, kv, rfl, fix.g, wd, fix.w, fix.k, fun HC sC => ?_⟩
  walk_at "r"
  exact ⟨_, _, _, _, _, _, _, _, _, _, _, _, _, _, _, _, _, _, rfl, fix.hh.same sC⟩
end
end K04

namespace K04
open PySem PySem.Spec PyProof.Rows L2
theorem all_mk {P : Program} {w : World} {fa : Addr} {K : PySem.W.Frag} {h : Heap} {mg : Str → Option Value} (X : K.In h) (G : h.Ns mainGlobals mg) (hfa : mg "law" = some (.ref fa))
  {C_CallError : Addr}
  {C_BadGoals : Addr}
  {C_BadCouple : Addr}
  {C_BadLot : Addr}
  {C_BadSide : Addr}
  {C_BadEnd : Addr}
  {C_Goals : Addr}
  {f_BadGoalsu_initu : Addr} {od_BadGoalsu_initu an_BadGoalsu_initu : Option Addr} {sl_BadGoalsu_initu : Array (Option Value)} {oc_BadGoalsu_initu kV_BadGoalsu_initu dc_BadGoalsu_initu pm_BadGoalsu_initu cd_BadGoalsu_initu ct_BadGoalsu_initu : Value}
  {f_BadLotu_initu : Addr} {od_BadLotu_initu an_BadLotu_initu : Option Addr} {sl_BadLotu_initu : Array (Option Value)} {oc_BadLotu_initu kV_BadLotu_initu dc_BadLotu_initu pm_BadLotu_initu cd_BadLotu_initu ct_BadLotu_initu : Value}
  {f_is_whole : Addr} {od_is_whole an_is_whole : Option Addr} {sl_is_whole : Array (Option Value)} {oc_is_whole kV_is_whole dc_is_whole pm_is_whole cd_is_whole ct_is_whole : Value}
  {q_is_whole : Addr} {qc_is_whole : Value} {qd_is_whole : Option Addr} {qs_is_whole : Array (Option Value)} {qn_is_whole : Nat}
  {f_is_truth : Addr} {od_is_truth an_is_truth : Option Addr} {sl_is_truth : Array (Option Value)} {oc_is_truth kV_is_truth dc_is_truth pm_is_truth cd_is_truth ct_is_truth : Value}
  {f_is_sequence : Addr} {od_is_sequence an_is_sequence : Option Addr} {sl_is_sequence : Array (Option Value)} {oc_is_sequence kV_is_sequence dc_is_sequence pm_is_sequence cd_is_sequence ct_is_sequence : Value}
  {f_check_side : Addr} {od_check_side an_check_side : Option Addr} {sl_check_side : Array (Option Value)} {oc_check_side kV_check_side dc_check_side pm_check_side cd_check_side ct_check_side : Value}
  {f_are_sides : Addr} {od_are_sides an_are_sides : Option Addr} {sl_are_sides : Array (Option Value)} {oc_are_sides kV_are_sides dc_are_sides pm_are_sides cd_are_sides ct_are_sides : Value}
  {f_check_couple : Addr} {od_check_couple an_check_couple : Option Addr} {sl_check_couple : Array (Option Value)} {oc_check_couple kV_check_couple dc_check_couple pm_check_couple cd_check_couple ct_check_couple : Value}
  {f_are_kinds : Addr} {od_are_kinds an_are_kinds : Option Addr} {sl_are_kinds : Array (Option Value)} {oc_are_kinds kV_are_kinds dc_are_kinds pm_are_kinds cd_are_kinds ct_are_kinds : Value}
  {f_is_lot : Addr} {od_is_lot an_is_lot : Option Addr} {sl_is_lot : Array (Option Value)} {oc_is_lot kV_is_lot dc_is_lot pm_is_lot cd_is_lot ct_is_lot : Value}
  {f_check_lot : Addr} {od_check_lot an_check_lot : Option Addr} {sl_check_lot : Array (Option Value)} {oc_check_lot kV_check_lot dc_check_lot pm_check_lot cd_check_lot ct_check_lot : Value}
  {f_is_order : Addr} {od_is_order an_is_order : Option Addr} {sl_is_order : Array (Option Value)} {oc_is_order kV_is_order dc_is_order pm_is_order cd_is_order ct_is_order : Value}
  {f_check_side_order : Addr} {od_check_side_order an_check_side_order : Option Addr} {sl_check_side_order : Array (Option Value)} {oc_check_side_order kV_check_side_order dc_check_side_order pm_check_side_order cd_check_side_order ct_check_side_order : Value}
  {f_sides_of_lines : Addr} {od_sides_of_lines an_sides_of_lines : Option Addr} {sl_sides_of_lines : Array (Option Value)} {oc_sides_of_lines kV_sides_of_lines dc_sides_of_lines pm_sides_of_lines cd_sides_of_lines ct_sides_of_lines : Value}
  {f_renumbered_lines : Addr} {od_renumbered_lines an_renumbered_lines : Option Addr} {sl_renumbered_lines : Array (Option Value)} {oc_renumbered_lines kV_renumbered_lines dc_renumbered_lines pm_renumbered_lines cd_renumbered_lines ct_renumbered_lines : Value}
  {f_are_ends : Addr} {od_are_ends an_are_ends : Option Addr} {sl_are_ends : Array (Option Value)} {oc_are_ends kV_are_ends dc_are_ends pm_are_ends cd_are_ends ct_are_ends : Value}
  {f_is_knowing : Addr} {od_is_knowing an_is_knowing : Option Addr} {sl_is_knowing : Array (Option Value)} {oc_is_knowing kV_is_knowing dc_is_knowing pm_is_knowing cd_is_knowing ct_is_knowing : Value}
  {f_raised_end : Addr} {od_raised_end an_raised_end : Option Addr} {sl_raised_end : Array (Option Value)} {oc_raised_end kV_raised_end dc_raised_end pm_raised_end cd_raised_end ct_raised_end : Value}
  {f_Goalsu_initu : Addr} {od_Goalsu_initu an_Goalsu_initu : Option Addr} {sl_Goalsu_initu : Array (Option Value)} {oc_Goalsu_initu kV_Goalsu_initu dc_Goalsu_initu pm_Goalsu_initu cd_Goalsu_initu ct_Goalsu_initu : Value}
  {q_Goalsu_initu : Addr} {qc_Goalsu_initu : Value} {qd_Goalsu_initu : Option Addr} {qs_Goalsu_initu : Array (Option Value)} {qn_Goalsu_initu : Nat}
  {w0_Goalsu_initu : Addr} {wd0_Goalsu_initu : Option Addr} {wn0_Goalsu_initu : Nat} {ws0_Goalsu_initu : Array (Option Value)}
  {f_Goalsu_equ : Addr} {od_Goalsu_equ an_Goalsu_equ : Option Addr} {sl_Goalsu_equ : Array (Option Value)} {oc_Goalsu_equ kV_Goalsu_equ dc_Goalsu_equ pm_Goalsu_equ cd_Goalsu_equ ct_Goalsu_equ : Value}
  {f_Goals_kept : Addr} {od_Goals_kept an_Goals_kept : Option Addr} {sl_Goals_kept : Array (Option Value)} {oc_Goals_kept kV_Goals_kept dc_Goals_kept pm_Goals_kept cd_Goals_kept ct_Goals_kept : Value}
  {f_Goals_renumbered : Addr} {od_Goals_renumbered an_Goals_renumbered : Option Addr} {sl_Goals_renumbered : Array (Option Value)} {oc_Goals_renumbered kV_Goals_renumbered dc_Goals_renumbered pm_Goals_renumbered cd_Goals_renumbered ct_Goals_renumbered : Value}
  {f_Goals_raised : Addr} {od_Goals_raised an_Goals_raised : Option Addr} {sl_Goals_raised : Array (Option Value)} {oc_Goals_raised kV_Goals_raised dc_Goals_raised pm_Goals_raised cd_Goals_raised ct_Goals_raised : Value}
  {f_Goals_without_foes : Addr} {od_Goals_without_foes an_Goals_without_foes : Option Addr} {sl_Goals_without_foes : Array (Option Value)} {oc_Goals_without_foes kV_Goals_without_foes dc_Goals_without_foes pm_Goals_without_foes cd_Goals_without_foes ct_Goals_without_foes : Value}
  {f_Goals_with_end : Addr} {od_Goals_with_end an_Goals_with_end : Option Addr} {sl_Goals_with_end : Array (Option Value)} {oc_Goals_with_end kV_Goals_with_end dc_Goals_with_end pm_Goals_with_end cd_Goals_with_end ct_Goals_with_end : Value}
  {f_Goals_all_wanted : Addr} {od_Goals_all_wanted an_Goals_all_wanted : Option Addr} {sl_Goals_all_wanted : Array (Option Value)} {oc_Goals_all_wanted kV_Goals_all_wanted dc_Goals_all_wanted pm_Goals_all_wanted cd_Goals_all_wanted ct_Goals_all_wanted : Value}
  {p_Goals_all_wanted : Addr} {rs_Goals_all_wanted : List Value}
  {q_Goals_all_wanted : Addr} {qc_Goals_all_wanted : Value} {qd_Goals_all_wanted : Option Addr} {qs_Goals_all_wanted : Array (Option Value)} {qn_Goals_all_wanted : Nat}
  {w0_Goals_all_wanted : Addr} {wd0_Goals_all_wanted : Option Addr} {wn0_Goals_all_wanted : Nat} {ws0_Goals_all_wanted : Array (Option Value)}
  {f_Lmix : Addr} {od_Lmix an_Lmix : Option Addr} {sl_Lmix : Array (Option Value)} {oc_Lmix kV_Lmix dc_Lmix pm_Lmix cd_Lmix ct_Lmix : Value}
  {f_Lhand : Addr} {od_Lhand an_Lhand : Option Addr} {sl_Lhand : Array (Option Value)} {oc_Lhand kV_Lhand dc_Lhand pm_Lhand cd_Lhand ct_Lhand : Value}
  {f_Ldraw : Addr} {od_Ldraw an_Ldraw : Option Addr} {sl_Ldraw : Array (Option Value)} {oc_Ldraw kV_Ldraw dc_Ldraw pm_Ldraw cd_Ldraw ct_Ldraw : Value}
  {f_Lwhole : Addr} {od_Lwhole an_Lwhole : Option Addr} {sl_Lwhole : Array (Option Value)} {oc_Lwhole kV_Lwhole dc_Lwhole pm_Lwhole cd_Lwhole ct_Lwhole : Value}
  {f_Lis : Addr} {od_Lis an_Lis : Option Addr} {sl_Lis : Array (Option Value)} {oc_Lis kV_Lis dc_Lis pm_Lis cd_Lis ct_Lis : Value}
  {f_Lwide_sides : Addr} {od_Lwide_sides an_Lwide_sides : Option Addr} {sl_Lwide_sides : Array (Option Value)} {oc_Lwide_sides kV_Lwide_sides dc_Lwide_sides pm_Lwide_sides cd_Lwide_sides ct_Lwide_sides : Value}
  {f_Lends : Addr} {od_Lends an_Lends : Option Addr} {sl_Lends : Array (Option Value)} {oc_Lends kV_Lends dc_Lends pm_Lends cd_Lends ct_Lends : Value}
  {f_Lneat : Addr} {od_Lneat an_Lneat : Option Addr} {sl_Lneat : Array (Option Value)} {oc_Lneat kV_Lneat dc_Lneat pm_Lneat cd_Lneat ct_Lneat : Value}
  {f_Lraw_wanted : Addr} {od_Lraw_wanted an_Lraw_wanted : Option Addr} {sl_Lraw_wanted : Array (Option Value)} {oc_Lraw_wanted kV_Lraw_wanted dc_Lraw_wanted pm_Lraw_wanted cd_Lraw_wanted ct_Lraw_wanted : Value}
  {f_Lneat_wanted : Addr} {od_Lneat_wanted an_Lneat_wanted : Option Addr} {sl_Lneat_wanted : Array (Option Value)} {oc_Lneat_wanted kV_Lneat_wanted dc_Lneat_wanted pm_Lneat_wanted cd_Lneat_wanted ct_Lneat_wanted : Value}
  {f_Ltruths : Addr} {od_Ltruths an_Ltruths : Option Addr} {sl_Ltruths : Array (Option Value)} {oc_Ltruths kV_Ltruths dc_Ltruths pm_Ltruths cd_Ltruths ct_Ltruths : Value}
  {f_Lgoal_facts : Addr} {od_Lgoal_facts an_Lgoal_facts : Option Addr} {sl_Lgoal_facts : Array (Option Value)} {oc_Lgoal_facts kV_Lgoal_facts dc_Lgoal_facts pm_Lgoal_facts cd_Lgoal_facts ct_Lgoal_facts : Value}
  {f_Lorder : Addr} {od_Lorder an_Lorder : Option Addr} {sl_Lorder : Array (Option Value)} {oc_Lorder kV_Lorder dc_Lorder pm_Lorder cd_Lorder ct_Lorder : Value}
  {f_Llot : Addr} {od_Llot an_Llot : Option Addr} {sl_Llot : Array (Option Value)} {oc_Llot kV_Llot dc_Llot pm_Llot cd_Llot ct_Llot : Value}
  {f_Lkept : Addr} {od_Lkept an_Lkept : Option Addr} {sl_Lkept : Array (Option Value)} {oc_Lkept kV_Lkept dc_Lkept pm_Lkept cd_Lkept ct_Lkept : Value}
  {f_Lrenumbered : Addr} {od_Lrenumbered an_Lrenumbered : Option Addr} {sl_Lrenumbered : Array (Option Value)} {oc_Lrenumbered kV_Lrenumbered dc_Lrenumbered pm_Lrenumbered cd_Lrenumbered ct_Lrenumbered : Value}
  {f_Lraised : Addr} {od_Lraised an_Lraised : Option Addr} {sl_Lraised : Array (Option Value)} {oc_Lraised kV_Lraised dc_Lraised pm_Lraised cd_Lraised ct_Lraised : Value}
  {f_Lwithout : Addr} {od_Lwithout an_Lwithout : Option Addr} {sl_Lwithout : Array (Option Value)} {oc_Lwithout kV_Lwithout dc_Lwithout pm_Lwithout cd_Lwithout ct_Lwithout : Value}
  {f_Lended : Addr} {od_Lended an_Lended : Option Addr} {sl_Lended : Array (Option Value)} {oc_Lended kV_Lended dc_Lended pm_Lended cd_Lended ct_Lended : Value}
  {f_Lall : Addr} {od_Lall an_Lall : Option Addr} {sl_Lall : Array (Option Value)} {oc_Lall kV_Lall dc_Lall pm_Lall cd_Lall ct_Lall : Value}
  {f_Lcut_right : Addr} {od_Lcut_right an_Lcut_right : Option Addr} {sl_Lcut_right : Array (Option Value)} {oc_Lcut_right kV_Lcut_right dc_Lcut_right pm_Lcut_right cd_Lcut_right ct_Lcut_right : Value}
  {f_Lraise_right : Addr} {od_Lraise_right an_Lraise_right : Option Addr} {sl_Lraise_right : Array (Option Value)} {oc_Lraise_right kV_Lraise_right dc_Lraise_right pm_Lraise_right cd_Lraise_right ct_Lraise_right : Value}
  {f_law : Addr} {od_law an_law : Option Addr} {sl_law : Array (Option Value)} {oc_law kV_law dc_law pm_law cd_law ct_law : Value}
  {nm_BadGoals qn_BadGoals : Str} {N_BadGoals : Addr} {bs_BadGoals : List Value} {sn_BadGoals : List Str} {sb_BadGoals : List Value} {ab_BadGoals : Bool} {co_BadGoals : Option Bool} {dd_BadGoals : Option Addr} {m0_BadGoals m1_BadGoals m2_BadGoals m3_BadGoals m5_BadGoals : Option Value}
  {nm_BadLot qn_BadLot : Str} {N_BadLot : Addr} {bs_BadLot : List Value} {sn_BadLot : List Str} {sb_BadLot : List Value} {ab_BadLot : Bool} {co_BadLot : Option Bool} {dd_BadLot : Option Addr} {m0_BadLot m1_BadLot m2_BadLot m3_BadLot m5_BadLot : Option Value}
  {t_EAST : Tok}
  {t_WEST : Tok}
  {t_LADDER_MOST : Tok}
  {t_KINDS_MOST : Tok}
  {t_COUPLES_MOST : Tok}
  (a_CallError : PySem.W.nsIn K mainGlobals "CallError" = some (some (.ref C_CallError)))
  (a_BadGoals : PySem.W.nsIn K mainGlobals "BadGoals" = some (some (.ref C_BadGoals)))
  (a_BadCouple : PySem.W.nsIn K mainGlobals "BadCouple" = some (some (.ref C_BadCouple)))
  (a_BadLot : PySem.W.nsIn K mainGlobals "BadLot" = some (some (.ref C_BadLot)))
  (a_BadSide : PySem.W.nsIn K mainGlobals "BadSide" = some (some (.ref C_BadSide)))
  (a_BadEnd : PySem.W.nsIn K mainGlobals "BadEnd" = some (some (.ref C_BadEnd)))
  (a_Goals : PySem.W.nsIn K mainGlobals "Goals" = some (some (.ref C_Goals)))
  (a_BadGoalsu_initu : PySem.W.findIn K (.ref C_BadGoals) "__init__" = some (some (.ref f_BadGoalsu_initu)))
  (l_BadGoalsu_initu : K.lookup f_BadGoalsu_initu = some ⟨oc_BadGoalsu_initu, od_BadGoalsu_initu, .func (PySem.W.fnOf "__init__" "BadGoals.__init__" (defArgs s_BadGoalsu_initu) (defBody s_BadGoalsu_initu) (defScope s_BadGoalsu_initu) .none kV_BadGoalsu_initu dc_BadGoalsu_initu pm_BadGoalsu_initu an_BadGoalsu_initu cd_BadGoalsu_initu ct_BadGoalsu_initu), sl_BadGoalsu_initu⟩)
  (c_BadGoalsu_initu : PySem.W.codeIn K cd_BadGoalsu_initu "BadGoals.__init__" = true)
  (k_BadGoalsu_initu : PySem.W.keepIn K (.ref f_BadGoalsu_initu) = true)
  (a_BadLotu_initu : PySem.W.findIn K (.ref C_BadLot) "__init__" = some (some (.ref f_BadLotu_initu)))
  (l_BadLotu_initu : K.lookup f_BadLotu_initu = some ⟨oc_BadLotu_initu, od_BadLotu_initu, .func (PySem.W.fnOf "__init__" "BadLot.__init__" (defArgs s_BadLotu_initu) (defBody s_BadLotu_initu) (defScope s_BadLotu_initu) .none kV_BadLotu_initu dc_BadLotu_initu pm_BadLotu_initu an_BadLotu_initu cd_BadLotu_initu ct_BadLotu_initu), sl_BadLotu_initu⟩)
  (c_BadLotu_initu : PySem.W.codeIn K cd_BadLotu_initu "BadLot.__init__" = true)
  (k_BadLotu_initu : PySem.W.keepIn K (.ref f_BadLotu_initu) = true)
  (a_is_whole : PySem.W.nsIn K mainGlobals "is_whole" = some (some (.ref f_is_whole)))
  (l_is_whole : K.lookup f_is_whole = some ⟨oc_is_whole, od_is_whole, .func (PySem.W.fnOf "is_whole" "is_whole" (defArgs s_is_whole) (defBody s_is_whole) (defScope s_is_whole) (.ref q_is_whole) kV_is_whole dc_is_whole pm_is_whole an_is_whole cd_is_whole ct_is_whole), sl_is_whole⟩)
  (c_is_whole : PySem.W.codeIn K cd_is_whole "is_whole" = true)
  (k_is_whole : PySem.W.keepIn K (.ref f_is_whole) = true)
  (t_is_whole : K.lookup q_is_whole = some ⟨qc_is_whole, qd_is_whole, .seq #[Value.none, Value.none] qn_is_whole, qs_is_whole⟩)
  (a_is_truth : PySem.W.nsIn K mainGlobals "is_truth" = some (some (.ref f_is_truth)))
  (l_is_truth : K.lookup f_is_truth = some ⟨oc_is_truth, od_is_truth, .func (PySem.W.fnOf "is_truth" "is_truth" (defArgs s_is_truth) (defBody s_is_truth) (defScope s_is_truth) .none kV_is_truth dc_is_truth pm_is_truth an_is_truth cd_is_truth ct_is_truth), sl_is_truth⟩)
  (c_is_truth : PySem.W.codeIn K cd_is_truth "is_truth" = true)
  (k_is_truth : PySem.W.keepIn K (.ref f_is_truth) = true)
  (a_is_sequence : PySem.W.nsIn K mainGlobals "is_sequence" = some (some (.ref f_is_sequence)))
  (l_is_sequence : K.lookup f_is_sequence = some ⟨oc_is_sequence, od_is_sequence, .func (PySem.W.fnOf "is_sequence" "is_sequence" (defArgs s_is_sequence) (defBody s_is_sequence) (defScope s_is_sequence) .none kV_is_sequence dc_is_sequence pm_is_sequence an_is_sequence cd_is_sequence ct_is_sequence), sl_is_sequence⟩)
  (c_is_sequence : PySem.W.codeIn K cd_is_sequence "is_sequence" = true)
  (k_is_sequence : PySem.W.keepIn K (.ref f_is_sequence) = true)
  (a_check_side : PySem.W.nsIn K mainGlobals "check_side" = some (some (.ref f_check_side)))
  (l_check_side : K.lookup f_check_side = some ⟨oc_check_side, od_check_side, .func (PySem.W.fnOf "check_side" "check_side" (defArgs s_check_side) (defBody s_check_side) (defScope s_check_side) .none kV_check_side dc_check_side pm_check_side an_check_side cd_check_side ct_check_side), sl_check_side⟩)
  (c_check_side : PySem.W.codeIn K cd_check_side "check_side" = true)
  (k_check_side : PySem.W.keepIn K (.ref f_check_side) = true)
  (a_are_sides : PySem.W.nsIn K mainGlobals "are_sides" = some (some (.ref f_are_sides)))
  (l_are_sides : K.lookup f_are_sides = some ⟨oc_are_sides, od_are_sides, .func (PySem.W.fnOf "are_sides" "are_sides" (defArgs s_are_sides) (defBody s_are_sides) (defScope s_are_sides) .none kV_are_sides dc_are_sides pm_are_sides an_are_sides cd_are_sides ct_are_sides), sl_are_sides⟩)
  (c_are_sides : PySem.W.codeIn K cd_are_sides "are_sides" = true)
  (k_are_sides : PySem.W.keepIn K (.ref f_are_sides) = true)
  (a_check_couple : PySem.W.nsIn K mainGlobals "check_couple" = some (some (.ref f_check_couple)))
  (l_check_couple : K.lookup f_check_couple = some ⟨oc_check_couple, od_check_couple, .func (PySem.W.fnOf "check_couple" "check_couple" (defArgs s_check_couple) (defBody s_check_couple) (defScope s_check_couple) .none kV_check_couple dc_check_couple pm_check_couple an_check_couple cd_check_couple ct_check_couple), sl_check_couple⟩)
  (c_check_couple : PySem.W.codeIn K cd_check_couple "check_couple" = true)
  (k_check_couple : PySem.W.keepIn K (.ref f_check_couple) = true)
  (a_are_kinds : PySem.W.nsIn K mainGlobals "are_kinds" = some (some (.ref f_are_kinds)))
  (l_are_kinds : K.lookup f_are_kinds = some ⟨oc_are_kinds, od_are_kinds, .func (PySem.W.fnOf "are_kinds" "are_kinds" (defArgs s_are_kinds) (defBody s_are_kinds) (defScope s_are_kinds) .none kV_are_kinds dc_are_kinds pm_are_kinds an_are_kinds cd_are_kinds ct_are_kinds), sl_are_kinds⟩)
  (c_are_kinds : PySem.W.codeIn K cd_are_kinds "are_kinds" = true)
  (k_are_kinds : PySem.W.keepIn K (.ref f_are_kinds) = true)
  (a_is_lot : PySem.W.nsIn K mainGlobals "is_lot" = some (some (.ref f_is_lot)))
  (l_is_lot : K.lookup f_is_lot = some ⟨oc_is_lot, od_is_lot, .func (PySem.W.fnOf "is_lot" "is_lot" (defArgs s_is_lot) (defBody s_is_lot) (defScope s_is_lot) .none kV_is_lot dc_is_lot pm_is_lot an_is_lot cd_is_lot ct_is_lot), sl_is_lot⟩)
  (c_is_lot : PySem.W.codeIn K cd_is_lot "is_lot" = true)
  (k_is_lot : PySem.W.keepIn K (.ref f_is_lot) = true)
  (a_check_lot : PySem.W.nsIn K mainGlobals "check_lot" = some (some (.ref f_check_lot)))
  (l_check_lot : K.lookup f_check_lot = some ⟨oc_check_lot, od_check_lot, .func (PySem.W.fnOf "check_lot" "check_lot" (defArgs s_check_lot) (defBody s_check_lot) (defScope s_check_lot) .none kV_check_lot dc_check_lot pm_check_lot an_check_lot cd_check_lot ct_check_lot), sl_check_lot⟩)
  (c_check_lot : PySem.W.codeIn K cd_check_lot "check_lot" = true)
  (k_check_lot : PySem.W.keepIn K (.ref f_check_lot) = true)
  (a_is_order : PySem.W.nsIn K mainGlobals "is_order" = some (some (.ref f_is_order)))
  (l_is_order : K.lookup f_is_order = some ⟨oc_is_order, od_is_order, .func (PySem.W.fnOf "is_order" "is_order" (defArgs s_is_order) (defBody s_is_order) (defScope s_is_order) .none kV_is_order dc_is_order pm_is_order an_is_order cd_is_order ct_is_order), sl_is_order⟩)
  (c_is_order : PySem.W.codeIn K cd_is_order "is_order" = true)
  (k_is_order : PySem.W.keepIn K (.ref f_is_order) = true)
  (a_check_side_order : PySem.W.nsIn K mainGlobals "check_side_order" = some (some (.ref f_check_side_order)))
  (l_check_side_order : K.lookup f_check_side_order = some ⟨oc_check_side_order, od_check_side_order, .func (PySem.W.fnOf "check_side_order" "check_side_order" (defArgs s_check_side_order) (defBody s_check_side_order) (defScope s_check_side_order) .none kV_check_side_order dc_check_side_order pm_check_side_order an_check_side_order cd_check_side_order ct_check_side_order), sl_check_side_order⟩)
  (c_check_side_order : PySem.W.codeIn K cd_check_side_order "check_side_order" = true)
  (k_check_side_order : PySem.W.keepIn K (.ref f_check_side_order) = true)
  (a_sides_of_lines : PySem.W.nsIn K mainGlobals "sides_of_lines" = some (some (.ref f_sides_of_lines)))
  (l_sides_of_lines : K.lookup f_sides_of_lines = some ⟨oc_sides_of_lines, od_sides_of_lines, .func (PySem.W.fnOf "sides_of_lines" "sides_of_lines" (defArgs s_sides_of_lines) (defBody s_sides_of_lines) (defScope s_sides_of_lines) .none kV_sides_of_lines dc_sides_of_lines pm_sides_of_lines an_sides_of_lines cd_sides_of_lines ct_sides_of_lines), sl_sides_of_lines⟩)
  (c_sides_of_lines : PySem.W.codeIn K cd_sides_of_lines "sides_of_lines" = true)
  (k_sides_of_lines : PySem.W.keepIn K (.ref f_sides_of_lines) = true)
  (a_renumbered_lines : PySem.W.nsIn K mainGlobals "renumbered_lines" = some (some (.ref f_renumbered_lines)))
  (l_renumbered_lines : K.lookup f_renumbered_lines = some ⟨oc_renumbered_lines, od_renumbered_lines, .func (PySem.W.fnOf "renumbered_lines" "renumbered_lines" (defArgs s_renumbered_lines) (defBody s_renumbered_lines) (defScope s_renumbered_lines) .none kV_renumbered_lines dc_renumbered_lines pm_renumbered_lines an_renumbered_lines cd_renumbered_lines ct_renumbered_lines), sl_renumbered_lines⟩)
  (c_renumbered_lines : PySem.W.codeIn K cd_renumbered_lines "renumbered_lines" = true)
  (k_renumbered_lines : PySem.W.keepIn K (.ref f_renumbered_lines) = true)
  (a_are_ends : PySem.W.nsIn K mainGlobals "are_ends" = some (some (.ref f_are_ends)))
  (l_are_ends : K.lookup f_are_ends = some ⟨oc_are_ends, od_are_ends, .func (PySem.W.fnOf "are_ends" "are_ends" (defArgs s_are_ends) (defBody s_are_ends) (defScope s_are_ends) .none kV_are_ends dc_are_ends pm_are_ends an_are_ends cd_are_ends ct_are_ends), sl_are_ends⟩)
  (c_are_ends : PySem.W.codeIn K cd_are_ends "are_ends" = true)
  (k_are_ends : PySem.W.keepIn K (.ref f_are_ends) = true)
  (a_is_knowing : PySem.W.nsIn K mainGlobals "is_knowing" = some (some (.ref f_is_knowing)))
  (l_is_knowing : K.lookup f_is_knowing = some ⟨oc_is_knowing, od_is_knowing, .func (PySem.W.fnOf "is_knowing" "is_knowing" (defArgs s_is_knowing) (defBody s_is_knowing) (defScope s_is_knowing) .none kV_is_knowing dc_is_knowing pm_is_knowing an_is_knowing cd_is_knowing ct_is_knowing), sl_is_knowing⟩)
  (c_is_knowing : PySem.W.codeIn K cd_is_knowing "is_knowing" = true)
  (k_is_knowing : PySem.W.keepIn K (.ref f_is_knowing) = true)
  (a_raised_end : PySem.W.nsIn K mainGlobals "raised_end" = some (some (.ref f_raised_end)))
  (l_raised_end : K.lookup f_raised_end = some ⟨oc_raised_end, od_raised_end, .func (PySem.W.fnOf "raised_end" "raised_end" (defArgs s_raised_end) (defBody s_raised_end) (defScope s_raised_end) .none kV_raised_end dc_raised_end pm_raised_end an_raised_end cd_raised_end ct_raised_end), sl_raised_end⟩)
  (c_raised_end : PySem.W.codeIn K cd_raised_end "raised_end" = true)
  (k_raised_end : PySem.W.keepIn K (.ref f_raised_end) = true)
  (a_Goalsu_initu : PySem.W.findIn K (.ref C_Goals) "__init__" = some (some (.ref f_Goalsu_initu)))
  (l_Goalsu_initu : K.lookup f_Goalsu_initu = some ⟨oc_Goalsu_initu, od_Goalsu_initu, .func (PySem.W.fnOf "__init__" "Goals.__init__" (defArgs s_Goalsu_initu) (defBody s_Goalsu_initu) (defScope s_Goalsu_initu) (.ref q_Goalsu_initu) kV_Goalsu_initu dc_Goalsu_initu pm_Goalsu_initu an_Goalsu_initu cd_Goalsu_initu ct_Goalsu_initu), sl_Goalsu_initu⟩)
  (c_Goalsu_initu : PySem.W.codeIn K cd_Goalsu_initu "Goals.__init__" = true)
  (k_Goalsu_initu : PySem.W.keepIn K (.ref f_Goalsu_initu) = true)
  (t_Goalsu_initu : K.lookup q_Goalsu_initu = some ⟨qc_Goalsu_initu, qd_Goalsu_initu, .seq #[Value.ref w0_Goalsu_initu] qn_Goalsu_initu, qs_Goalsu_initu⟩)
  (w0_Goalsu_initu_ : K.lookup w0_Goalsu_initu = some ⟨.type "tuple", wd0_Goalsu_initu, .seq #[Value.bool false, Value.bool false] wn0_Goalsu_initu, ws0_Goalsu_initu⟩)
  (a_Goalsu_equ : PySem.W.findIn K (.ref C_Goals) "__eq__" = some (some (.ref f_Goalsu_equ)))
  (l_Goalsu_equ : K.lookup f_Goalsu_equ = some ⟨oc_Goalsu_equ, od_Goalsu_equ, .func (PySem.W.fnOf "__eq__" "Goals.__eq__" (defArgs s_Goalsu_equ) (defBody s_Goalsu_equ) (defScope s_Goalsu_equ) .none kV_Goalsu_equ dc_Goalsu_equ pm_Goalsu_equ an_Goalsu_equ cd_Goalsu_equ ct_Goalsu_equ), sl_Goalsu_equ⟩)
  (c_Goalsu_equ : PySem.W.codeIn K cd_Goalsu_equ "Goals.__eq__" = true)
  (k_Goalsu_equ : PySem.W.keepIn K (.ref f_Goalsu_equ) = true)
  (a_Goals_kept : PySem.W.findIn K (.ref C_Goals) "kept" = some (some (.ref f_Goals_kept)))
  (l_Goals_kept : K.lookup f_Goals_kept = some ⟨oc_Goals_kept, od_Goals_kept, .func (PySem.W.fnOf "kept" "Goals.kept" (defArgs s_Goals_kept) (defBody s_Goals_kept) (defScope s_Goals_kept) .none kV_Goals_kept dc_Goals_kept pm_Goals_kept an_Goals_kept cd_Goals_kept ct_Goals_kept), sl_Goals_kept⟩)
  (c_Goals_kept : PySem.W.codeIn K cd_Goals_kept "Goals.kept" = true)
  (k_Goals_kept : PySem.W.keepIn K (.ref f_Goals_kept) = true)
  (a_Goals_renumbered : PySem.W.findIn K (.ref C_Goals) "renumbered" = some (some (.ref f_Goals_renumbered)))
  (l_Goals_renumbered : K.lookup f_Goals_renumbered = some ⟨oc_Goals_renumbered, od_Goals_renumbered, .func (PySem.W.fnOf "renumbered" "Goals.renumbered" (defArgs s_Goals_renumbered) (defBody s_Goals_renumbered) (defScope s_Goals_renumbered) .none kV_Goals_renumbered dc_Goals_renumbered pm_Goals_renumbered an_Goals_renumbered cd_Goals_renumbered ct_Goals_renumbered), sl_Goals_renumbered⟩)
  (c_Goals_renumbered : PySem.W.codeIn K cd_Goals_renumbered "Goals.renumbered" = true)
  (k_Goals_renumbered : PySem.W.keepIn K (.ref f_Goals_renumbered) = true)
  (a_Goals_raised : PySem.W.findIn K (.ref C_Goals) "raised" = some (some (.ref f_Goals_raised)))
  (l_Goals_raised : K.lookup f_Goals_raised = some ⟨oc_Goals_raised, od_Goals_raised, .func (PySem.W.fnOf "raised" "Goals.raised" (defArgs s_Goals_raised) (defBody s_Goals_raised) (defScope s_Goals_raised) .none kV_Goals_raised dc_Goals_raised pm_Goals_raised an_Goals_raised cd_Goals_raised ct_Goals_raised), sl_Goals_raised⟩)
  (c_Goals_raised : PySem.W.codeIn K cd_Goals_raised "Goals.raised" = true)
  (k_Goals_raised : PySem.W.keepIn K (.ref f_Goals_raised) = true)
  (a_Goals_without_foes : PySem.W.findIn K (.ref C_Goals) "without_foes" = some (some (.ref f_Goals_without_foes)))
  (l_Goals_without_foes : K.lookup f_Goals_without_foes = some ⟨oc_Goals_without_foes, od_Goals_without_foes, .func (PySem.W.fnOf "without_foes" "Goals.without_foes" (defArgs s_Goals_without_foes) (defBody s_Goals_without_foes) (defScope s_Goals_without_foes) .none kV_Goals_without_foes dc_Goals_without_foes pm_Goals_without_foes an_Goals_without_foes cd_Goals_without_foes ct_Goals_without_foes), sl_Goals_without_foes⟩)
  (c_Goals_without_foes : PySem.W.codeIn K cd_Goals_without_foes "Goals.without_foes" = true)
  (k_Goals_without_foes : PySem.W.keepIn K (.ref f_Goals_without_foes) = true)
  (a_Goals_with_end : PySem.W.findIn K (.ref C_Goals) "with_end" = some (some (.ref f_Goals_with_end)))
  (l_Goals_with_end : K.lookup f_Goals_with_end = some ⟨oc_Goals_with_end, od_Goals_with_end, .func (PySem.W.fnOf "with_end" "Goals.with_end" (defArgs s_Goals_with_end) (defBody s_Goals_with_end) (defScope s_Goals_with_end) .none kV_Goals_with_end dc_Goals_with_end pm_Goals_with_end an_Goals_with_end cd_Goals_with_end ct_Goals_with_end), sl_Goals_with_end⟩)
  (c_Goals_with_end : PySem.W.codeIn K cd_Goals_with_end "Goals.with_end" = true)
  (k_Goals_with_end : PySem.W.keepIn K (.ref f_Goals_with_end) = true)
  (a_Goals_all_wanted : PySem.W.findCls K (.ref C_Goals) (.type "type") "all_wanted" = some (.get (.builtin "staticmethod.__get__") (.ref p_Goals_all_wanted) .none (.ref C_Goals)))
  (r_Goals_all_wanted : PySem.W.recIn K p_Goals_all_wanted "staticmethod" = some (.ref f_Goals_all_wanted :: rs_Goals_all_wanted))
  (sr_Goals_all_wanted : PySem.W.readsIn K C_Goals (.type "type") = true)
  (sg_Goals_all_wanted : PySem.W.specialIn K (.ref C_Goals) "__getattribute__" = some (some (.builtin "type.__getattribute__")))
  (l_Goals_all_wanted : K.lookup f_Goals_all_wanted = some ⟨oc_Goals_all_wanted, od_Goals_all_wanted, .func (PySem.W.fnOf "all_wanted" "Goals.all_wanted" (defArgs s_Goals_all_wanted) (defBody s_Goals_all_wanted) (defScope s_Goals_all_wanted) (.ref q_Goals_all_wanted) kV_Goals_all_wanted dc_Goals_all_wanted pm_Goals_all_wanted an_Goals_all_wanted cd_Goals_all_wanted ct_Goals_all_wanted), sl_Goals_all_wanted⟩)
  (c_Goals_all_wanted : PySem.W.codeIn K cd_Goals_all_wanted "Goals.all_wanted" = true)
  (k_Goals_all_wanted : PySem.W.keepIn K (.ref f_Goals_all_wanted) = true)
  (t_Goals_all_wanted : K.lookup q_Goals_all_wanted = some ⟨qc_Goals_all_wanted, qd_Goals_all_wanted, .seq #[Value.ref w0_Goals_all_wanted] qn_Goals_all_wanted, qs_Goals_all_wanted⟩)
  (w0_Goals_all_wanted_ : K.lookup w0_Goals_all_wanted = some ⟨.type "tuple", wd0_Goals_all_wanted, .seq #[Value.bool false, Value.bool false] wn0_Goals_all_wanted, ws0_Goals_all_wanted⟩)
  (a_Lmix : PySem.W.nsIn K mainGlobals "_law_mix" = some (some (.ref f_Lmix)))
  (l_Lmix : K.lookup f_Lmix = some ⟨oc_Lmix, od_Lmix, .func (PySem.W.fnOf "_law_mix" "_law_mix" (defArgs s_Lmix) (defBody s_Lmix) (defScope s_Lmix) .none kV_Lmix dc_Lmix pm_Lmix an_Lmix cd_Lmix ct_Lmix), sl_Lmix⟩)
  (c_Lmix : PySem.W.codeIn K cd_Lmix "_law_mix" = true)
  (k_Lmix : PySem.W.keepIn K (.ref f_Lmix) = true)
  (a_Lhand : PySem.W.nsIn K mainGlobals "_law_hand" = some (some (.ref f_Lhand)))
  (l_Lhand : K.lookup f_Lhand = some ⟨oc_Lhand, od_Lhand, .func (PySem.W.fnOf "_law_hand" "_law_hand" (defArgs s_Lhand) (defBody s_Lhand) (defScope s_Lhand) .none kV_Lhand dc_Lhand pm_Lhand an_Lhand cd_Lhand ct_Lhand), sl_Lhand⟩)
  (c_Lhand : PySem.W.codeIn K cd_Lhand "_law_hand" = true)
  (k_Lhand : PySem.W.keepIn K (.ref f_Lhand) = true)
  (a_Ldraw : PySem.W.nsIn K mainGlobals "_law_draw" = some (some (.ref f_Ldraw)))
  (l_Ldraw : K.lookup f_Ldraw = some ⟨oc_Ldraw, od_Ldraw, .func (PySem.W.fnOf "_law_draw" "_law_draw" (defArgs s_Ldraw) (defBody s_Ldraw) (defScope s_Ldraw) .none kV_Ldraw dc_Ldraw pm_Ldraw an_Ldraw cd_Ldraw ct_Ldraw), sl_Ldraw⟩)
  (c_Ldraw : PySem.W.codeIn K cd_Ldraw "_law_draw" = true)
  (k_Ldraw : PySem.W.keepIn K (.ref f_Ldraw) = true)
  (a_Lwhole : PySem.W.nsIn K mainGlobals "_law_whole" = some (some (.ref f_Lwhole)))
  (l_Lwhole : K.lookup f_Lwhole = some ⟨oc_Lwhole, od_Lwhole, .func (PySem.W.fnOf "_law_whole" "_law_whole" (defArgs s_Lwhole) (defBody s_Lwhole) (defScope s_Lwhole) .none kV_Lwhole dc_Lwhole pm_Lwhole an_Lwhole cd_Lwhole ct_Lwhole), sl_Lwhole⟩)
  (c_Lwhole : PySem.W.codeIn K cd_Lwhole "_law_whole" = true)
  (k_Lwhole : PySem.W.keepIn K (.ref f_Lwhole) = true)
  (a_Lis : PySem.W.nsIn K mainGlobals "_law_is" = some (some (.ref f_Lis)))
  (l_Lis : K.lookup f_Lis = some ⟨oc_Lis, od_Lis, .func (PySem.W.fnOf "_law_is" "_law_is" (defArgs s_Lis) (defBody s_Lis) (defScope s_Lis) .none kV_Lis dc_Lis pm_Lis an_Lis cd_Lis ct_Lis), sl_Lis⟩)
  (c_Lis : PySem.W.codeIn K cd_Lis "_law_is" = true)
  (k_Lis : PySem.W.keepIn K (.ref f_Lis) = true)
  (a_Lwide_sides : PySem.W.nsIn K mainGlobals "_law_wide_sides" = some (some (.ref f_Lwide_sides)))
  (l_Lwide_sides : K.lookup f_Lwide_sides = some ⟨oc_Lwide_sides, od_Lwide_sides, .func (PySem.W.fnOf "_law_wide_sides" "_law_wide_sides" (defArgs s_Lwide_sides) (defBody s_Lwide_sides) (defScope s_Lwide_sides) .none kV_Lwide_sides dc_Lwide_sides pm_Lwide_sides an_Lwide_sides cd_Lwide_sides ct_Lwide_sides), sl_Lwide_sides⟩)
  (c_Lwide_sides : PySem.W.codeIn K cd_Lwide_sides "_law_wide_sides" = true)
  (k_Lwide_sides : PySem.W.keepIn K (.ref f_Lwide_sides) = true)
  (a_Lends : PySem.W.nsIn K mainGlobals "_law_ends" = some (some (.ref f_Lends)))
  (l_Lends : K.lookup f_Lends = some ⟨oc_Lends, od_Lends, .func (PySem.W.fnOf "_law_ends" "_law_ends" (defArgs s_Lends) (defBody s_Lends) (defScope s_Lends) .none kV_Lends dc_Lends pm_Lends an_Lends cd_Lends ct_Lends), sl_Lends⟩)
  (c_Lends : PySem.W.codeIn K cd_Lends "_law_ends" = true)
  (k_Lends : PySem.W.keepIn K (.ref f_Lends) = true)
  (a_Lneat : PySem.W.nsIn K mainGlobals "_law_neat" = some (some (.ref f_Lneat)))
  (l_Lneat : K.lookup f_Lneat = some ⟨oc_Lneat, od_Lneat, .func (PySem.W.fnOf "_law_neat" "_law_neat" (defArgs s_Lneat) (defBody s_Lneat) (defScope s_Lneat) .none kV_Lneat dc_Lneat pm_Lneat an_Lneat cd_Lneat ct_Lneat), sl_Lneat⟩)
  (c_Lneat : PySem.W.codeIn K cd_Lneat "_law_neat" = true)
  (k_Lneat : PySem.W.keepIn K (.ref f_Lneat) = true)
  (a_Lraw_wanted : PySem.W.nsIn K mainGlobals "_law_raw_wanted" = some (some (.ref f_Lraw_wanted)))
  (l_Lraw_wanted : K.lookup f_Lraw_wanted = some ⟨oc_Lraw_wanted, od_Lraw_wanted, .func (PySem.W.fnOf "_law_raw_wanted" "_law_raw_wanted" (defArgs s_Lraw_wanted) (defBody s_Lraw_wanted) (defScope s_Lraw_wanted) .none kV_Lraw_wanted dc_Lraw_wanted pm_Lraw_wanted an_Lraw_wanted cd_Lraw_wanted ct_Lraw_wanted), sl_Lraw_wanted⟩)
  (c_Lraw_wanted : PySem.W.codeIn K cd_Lraw_wanted "_law_raw_wanted" = true)
  (k_Lraw_wanted : PySem.W.keepIn K (.ref f_Lraw_wanted) = true)
  (a_Lneat_wanted : PySem.W.nsIn K mainGlobals "_law_neat_wanted" = some (some (.ref f_Lneat_wanted)))
  (l_Lneat_wanted : K.lookup f_Lneat_wanted = some ⟨oc_Lneat_wanted, od_Lneat_wanted, .func (PySem.W.fnOf "_law_neat_wanted" "_law_neat_wanted" (defArgs s_Lneat_wanted) (defBody s_Lneat_wanted) (defScope s_Lneat_wanted) .none kV_Lneat_wanted dc_Lneat_wanted pm_Lneat_wanted an_Lneat_wanted cd_Lneat_wanted ct_Lneat_wanted), sl_Lneat_wanted⟩)
  (c_Lneat_wanted : PySem.W.codeIn K cd_Lneat_wanted "_law_neat_wanted" = true)
  (k_Lneat_wanted : PySem.W.keepIn K (.ref f_Lneat_wanted) = true)
  (a_Ltruths : PySem.W.nsIn K mainGlobals "_law_truths" = some (some (.ref f_Ltruths)))
  (l_Ltruths : K.lookup f_Ltruths = some ⟨oc_Ltruths, od_Ltruths, .func (PySem.W.fnOf "_law_truths" "_law_truths" (defArgs s_Ltruths) (defBody s_Ltruths) (defScope s_Ltruths) .none kV_Ltruths dc_Ltruths pm_Ltruths an_Ltruths cd_Ltruths ct_Ltruths), sl_Ltruths⟩)
  (c_Ltruths : PySem.W.codeIn K cd_Ltruths "_law_truths" = true)
  (k_Ltruths : PySem.W.keepIn K (.ref f_Ltruths) = true)
  (a_Lgoal_facts : PySem.W.nsIn K mainGlobals "_law_goal_facts" = some (some (.ref f_Lgoal_facts)))
  (l_Lgoal_facts : K.lookup f_Lgoal_facts = some ⟨oc_Lgoal_facts, od_Lgoal_facts, .func (PySem.W.fnOf "_law_goal_facts" "_law_goal_facts" (defArgs s_Lgoal_facts) (defBody s_Lgoal_facts) (defScope s_Lgoal_facts) .none kV_Lgoal_facts dc_Lgoal_facts pm_Lgoal_facts an_Lgoal_facts cd_Lgoal_facts ct_Lgoal_facts), sl_Lgoal_facts⟩)
  (c_Lgoal_facts : PySem.W.codeIn K cd_Lgoal_facts "_law_goal_facts" = true)
  (k_Lgoal_facts : PySem.W.keepIn K (.ref f_Lgoal_facts) = true)
  (a_Lorder : PySem.W.nsIn K mainGlobals "_law_order" = some (some (.ref f_Lorder)))
  (l_Lorder : K.lookup f_Lorder = some ⟨oc_Lorder, od_Lorder, .func (PySem.W.fnOf "_law_order" "_law_order" (defArgs s_Lorder) (defBody s_Lorder) (defScope s_Lorder) .none kV_Lorder dc_Lorder pm_Lorder an_Lorder cd_Lorder ct_Lorder), sl_Lorder⟩)
  (c_Lorder : PySem.W.codeIn K cd_Lorder "_law_order" = true)
  (k_Lorder : PySem.W.keepIn K (.ref f_Lorder) = true)
  (a_Llot : PySem.W.nsIn K mainGlobals "_law_lot" = some (some (.ref f_Llot)))
  (l_Llot : K.lookup f_Llot = some ⟨oc_Llot, od_Llot, .func (PySem.W.fnOf "_law_lot" "_law_lot" (defArgs s_Llot) (defBody s_Llot) (defScope s_Llot) .none kV_Llot dc_Llot pm_Llot an_Llot cd_Llot ct_Llot), sl_Llot⟩)
  (c_Llot : PySem.W.codeIn K cd_Llot "_law_lot" = true)
  (k_Llot : PySem.W.keepIn K (.ref f_Llot) = true)
  (a_Lkept : PySem.W.nsIn K mainGlobals "_law_kept" = some (some (.ref f_Lkept)))
  (l_Lkept : K.lookup f_Lkept = some ⟨oc_Lkept, od_Lkept, .func (PySem.W.fnOf "_law_kept" "_law_kept" (defArgs s_Lkept) (defBody s_Lkept) (defScope s_Lkept) .none kV_Lkept dc_Lkept pm_Lkept an_Lkept cd_Lkept ct_Lkept), sl_Lkept⟩)
  (c_Lkept : PySem.W.codeIn K cd_Lkept "_law_kept" = true)
  (k_Lkept : PySem.W.keepIn K (.ref f_Lkept) = true)
  (a_Lrenumbered : PySem.W.nsIn K mainGlobals "_law_renumbered" = some (some (.ref f_Lrenumbered)))
  (l_Lrenumbered : K.lookup f_Lrenumbered = some ⟨oc_Lrenumbered, od_Lrenumbered, .func (PySem.W.fnOf "_law_renumbered" "_law_renumbered" (defArgs s_Lrenumbered) (defBody s_Lrenumbered) (defScope s_Lrenumbered) .none kV_Lrenumbered dc_Lrenumbered pm_Lrenumbered an_Lrenumbered cd_Lrenumbered ct_Lrenumbered), sl_Lrenumbered⟩)
  (c_Lrenumbered : PySem.W.codeIn K cd_Lrenumbered "_law_renumbered" = true)
  (k_Lrenumbered : PySem.W.keepIn K (.ref f_Lrenumbered) = true)
  (a_Lraised : PySem.W.nsIn K mainGlobals "_law_raised" = some (some (.ref f_Lraised)))
  (l_Lraised : K.lookup f_Lraised = some ⟨oc_Lraised, od_Lraised, .func (PySem.W.fnOf "_law_raised" "_law_raised" (defArgs s_Lraised) (defBody s_Lraised) (defScope s_Lraised) .none kV_Lraised dc_Lraised pm_Lraised an_Lraised cd_Lraised ct_Lraised), sl_Lraised⟩)
  (c_Lraised : PySem.W.codeIn K cd_Lraised "_law_raised" = true)
  (k_Lraised : PySem.W.keepIn K (.ref f_Lraised) = true)
  (a_Lwithout : PySem.W.nsIn K mainGlobals "_law_without" = some (some (.ref f_Lwithout)))
  (l_Lwithout : K.lookup f_Lwithout = some ⟨oc_Lwithout, od_Lwithout, .func (PySem.W.fnOf "_law_without" "_law_without" (defArgs s_Lwithout) (defBody s_Lwithout) (defScope s_Lwithout) .none kV_Lwithout dc_Lwithout pm_Lwithout an_Lwithout cd_Lwithout ct_Lwithout), sl_Lwithout⟩)
  (c_Lwithout : PySem.W.codeIn K cd_Lwithout "_law_without" = true)
  (k_Lwithout : PySem.W.keepIn K (.ref f_Lwithout) = true)
  (a_Lended : PySem.W.nsIn K mainGlobals "_law_ended" = some (some (.ref f_Lended)))
  (l_Lended : K.lookup f_Lended = some ⟨oc_Lended, od_Lended, .func (PySem.W.fnOf "_law_ended" "_law_ended" (defArgs s_Lended) (defBody s_Lended) (defScope s_Lended) .none kV_Lended dc_Lended pm_Lended an_Lended cd_Lended ct_Lended), sl_Lended⟩)
  (c_Lended : PySem.W.codeIn K cd_Lended "_law_ended" = true)
  (k_Lended : PySem.W.keepIn K (.ref f_Lended) = true)
  (a_Lall : PySem.W.nsIn K mainGlobals "_law_all" = some (some (.ref f_Lall)))
  (l_Lall : K.lookup f_Lall = some ⟨oc_Lall, od_Lall, .func (PySem.W.fnOf "_law_all" "_law_all" (defArgs s_Lall) (defBody s_Lall) (defScope s_Lall) .none kV_Lall dc_Lall pm_Lall an_Lall cd_Lall ct_Lall), sl_Lall⟩)
  (c_Lall : PySem.W.codeIn K cd_Lall "_law_all" = true)
  (k_Lall : PySem.W.keepIn K (.ref f_Lall) = true)
  (a_Lcut_right : PySem.W.nsIn K mainGlobals "_law_cut_right" = some (some (.ref f_Lcut_right)))
  (l_Lcut_right : K.lookup f_Lcut_right = some ⟨oc_Lcut_right, od_Lcut_right, .func (PySem.W.fnOf "_law_cut_right" "_law_cut_right" (defArgs s_Lcut_right) (defBody s_Lcut_right) (defScope s_Lcut_right) .none kV_Lcut_right dc_Lcut_right pm_Lcut_right an_Lcut_right cd_Lcut_right ct_Lcut_right), sl_Lcut_right⟩)
  (c_Lcut_right : PySem.W.codeIn K cd_Lcut_right "_law_cut_right" = true)
  (k_Lcut_right : PySem.W.keepIn K (.ref f_Lcut_right) = true)
  (a_Lraise_right : PySem.W.nsIn K mainGlobals "_law_raise_right" = some (some (.ref f_Lraise_right)))
  (l_Lraise_right : K.lookup f_Lraise_right = some ⟨oc_Lraise_right, od_Lraise_right, .func (PySem.W.fnOf "_law_raise_right" "_law_raise_right" (defArgs s_Lraise_right) (defBody s_Lraise_right) (defScope s_Lraise_right) .none kV_Lraise_right dc_Lraise_right pm_Lraise_right an_Lraise_right cd_Lraise_right ct_Lraise_right), sl_Lraise_right⟩)
  (c_Lraise_right : PySem.W.codeIn K cd_Lraise_right "_law_raise_right" = true)
  (k_Lraise_right : PySem.W.keepIn K (.ref f_Lraise_right) = true)
  (a_law : PySem.W.nsIn K mainGlobals "law" = some (some (.ref f_law)))
  (l_law : K.lookup f_law = some ⟨oc_law, od_law, .func (PySem.W.fnOf "law" "law" (defArgs s_law) (defBody s_law) (defScope s_law) .none kV_law dc_law pm_law an_law cd_law ct_law), sl_law⟩)
  (c_law : PySem.W.codeIn K cd_law "law" = true)
  (k_law : PySem.W.keepIn K (.ref f_law) = true)
  (k_CallError : PySem.W.keepIn K (.ref C_CallError) = true)
  (b_CallError : PySem.W.subIn K (.ref C_CallError) (.type "BaseException") = some true)
  (t_CallError : PySem.W.typeIn K (.ref C_CallError) = some (.type "type"))
  (i_CallError : PySem.W.isClsIn K C_CallError = true)
  (s_CallError : PySem.W.subIn K (.ref C_CallError) (.ref C_CallError) = some true)
  (x_CallError : PySem.W.excIn K C_CallError [.type "ValueError", .type "Exception", .type "BaseException", .type "object"] "ValueError.__new__" = true)
  (k_BadGoals : PySem.W.keepIn K (.ref C_BadGoals) = true)
  (b_BadGoals : PySem.W.subIn K (.ref C_BadGoals) (.type "BaseException") = some true)
  (t_BadGoals : PySem.W.typeIn K (.ref C_BadGoals) = some (.type "type"))
  (i_BadGoals : PySem.W.isClsIn K C_BadGoals = true)
  (s_BadGoals : PySem.W.subIn K (.ref C_BadGoals) (.ref C_BadGoals) = some true)
  (x_BadGoals : K.lookup C_BadGoals = some (excClassObj nm_BadGoals qn_BadGoals C_BadGoals N_BadGoals bs_BadGoals [.ref C_CallError, .type "ValueError", .type "Exception", .type "BaseException", .type "object"] true sn_BadGoals sb_BadGoals ab_BadGoals co_BadGoals dd_BadGoals m0_BadGoals m1_BadGoals m2_BadGoals m3_BadGoals m5_BadGoals "ValueError.__new__"))
  (sa_BadGoals : PySem.W.findIn K (.ref C_BadGoals) "__setattr__" = some (some (.builtin "object.__setattr__")))
  (ga_BadGoals : PySem.W.findIn K (.ref C_BadGoals) "__getattribute__" = some (some (.builtin "BaseException.__getattribute__")))
  (gg_BadGoals : PySem.W.findIn K (.ref C_BadGoals) "__getattr__" = some none)
  (hd_BadGoals : PySem.W.hasDictIn K C_BadGoals = true)
  (y_BadGoals : PySem.W.typeIn K (.ref f_BadGoalsu_initu) = some (.type "function"))
  (n_BadGoals_what : PySem.W.findIn K (.ref C_BadGoals) "what" = some none)
  (k_BadCouple : PySem.W.keepIn K (.ref C_BadCouple) = true)
  (b_BadCouple : PySem.W.subIn K (.ref C_BadCouple) (.type "BaseException") = some true)
  (t_BadCouple : PySem.W.typeIn K (.ref C_BadCouple) = some (.type "type"))
  (i_BadCouple : PySem.W.isClsIn K C_BadCouple = true)
  (s_BadCouple : PySem.W.subIn K (.ref C_BadCouple) (.ref C_BadCouple) = some true)
  (x_BadCouple : PySem.W.excIn K C_BadCouple [.type "ValueError", .type "Exception", .type "BaseException", .type "object"] "ValueError.__new__" = true)
  (u_BadLot_BadSide : PySem.W.subIn K (.ref C_BadLot) (.ref C_BadSide) = some false)
  (k_BadLot : PySem.W.keepIn K (.ref C_BadLot) = true)
  (b_BadLot : PySem.W.subIn K (.ref C_BadLot) (.type "BaseException") = some true)
  (t_BadLot : PySem.W.typeIn K (.ref C_BadLot) = some (.type "type"))
  (i_BadLot : PySem.W.isClsIn K C_BadLot = true)
  (s_BadLot : PySem.W.subIn K (.ref C_BadLot) (.ref C_BadLot) = some true)
  (x_BadLot : K.lookup C_BadLot = some (excClassObj nm_BadLot qn_BadLot C_BadLot N_BadLot bs_BadLot [.ref C_CallError, .type "ValueError", .type "Exception", .type "BaseException", .type "object"] true sn_BadLot sb_BadLot ab_BadLot co_BadLot dd_BadLot m0_BadLot m1_BadLot m2_BadLot m3_BadLot m5_BadLot "ValueError.__new__"))
  (sa_BadLot : PySem.W.findIn K (.ref C_BadLot) "__setattr__" = some (some (.builtin "object.__setattr__")))
  (ga_BadLot : PySem.W.findIn K (.ref C_BadLot) "__getattribute__" = some (some (.builtin "BaseException.__getattribute__")))
  (gg_BadLot : PySem.W.findIn K (.ref C_BadLot) "__getattr__" = some none)
  (hd_BadLot : PySem.W.hasDictIn K C_BadLot = true)
  (y_BadLot : PySem.W.typeIn K (.ref f_BadLotu_initu) = some (.type "function"))
  (n_BadLot_side : PySem.W.findIn K (.ref C_BadLot) "side" = some none)
  (k_BadSide : PySem.W.keepIn K (.ref C_BadSide) = true)
  (b_BadSide : PySem.W.subIn K (.ref C_BadSide) (.type "BaseException") = some true)
  (t_BadSide : PySem.W.typeIn K (.ref C_BadSide) = some (.type "type"))
  (i_BadSide : PySem.W.isClsIn K C_BadSide = true)
  (s_BadSide : PySem.W.subIn K (.ref C_BadSide) (.ref C_BadSide) = some true)
  (x_BadSide : PySem.W.excIn K C_BadSide [.type "ValueError", .type "Exception", .type "BaseException", .type "object"] "ValueError.__new__" = true)
  (u_BadEnd_BadCouple : PySem.W.subIn K (.ref C_BadEnd) (.ref C_BadCouple) = some false)
  (k_BadEnd : PySem.W.keepIn K (.ref C_BadEnd) = true)
  (b_BadEnd : PySem.W.subIn K (.ref C_BadEnd) (.type "BaseException") = some true)
  (t_BadEnd : PySem.W.typeIn K (.ref C_BadEnd) = some (.type "type"))
  (i_BadEnd : PySem.W.isClsIn K C_BadEnd = true)
  (s_BadEnd : PySem.W.subIn K (.ref C_BadEnd) (.ref C_BadEnd) = some true)
  (x_BadEnd : PySem.W.excIn K C_BadEnd [.type "ValueError", .type "Exception", .type "BaseException", .type "object"] "ValueError.__new__" = true)
  (kp_Goals : PySem.W.keepIn K (.ref C_Goals) = true)
  (pg_Goals : PySem.W.plainGet K C_Goals Str.empty = true)
  (hd_Goals : PySem.W.hasDictIn K C_Goals = true)
  (po_Goals : PySem.W.plainOver K C_Goals = true)
  (sa_Goals : PySem.W.findIn K (.ref C_Goals) "__setattr__" = some (some (.builtin "object.__setattr__")))
  (mk_Goals : PySem.W.makesIn K C_Goals = true)
  (fn_Goalsu_initu : PySem.W.isFn K (.ref f_Goalsu_initu) = true)
  (fn_Goalsu_equ : PySem.W.isFn K (.ref f_Goalsu_equ) = true)
  (fn_Goals_kept : PySem.W.isFn K (.ref f_Goals_kept) = true)
  (fn_Goals_renumbered : PySem.W.isFn K (.ref f_Goals_renumbered) = true)
  (fn_Goals_raised : PySem.W.isFn K (.ref f_Goals_raised) = true)
  (fn_Goals_without_foes : PySem.W.isFn K (.ref f_Goals_without_foes) = true)
  (fn_Goals_with_end : PySem.W.isFn K (.ref f_Goals_with_end) = true)
  (n_Goals_ladder : PySem.W.findIn K (.ref C_Goals) "ladder" = some none)
  (n_Goals_wanted : PySem.W.findIn K (.ref C_Goals) "wanted" = some none)
  (n_Goals_knows : PySem.W.findIn K (.ref C_Goals) "knows" = some none)
  (n_Goals_sides : PySem.W.findIn K (.ref C_Goals) "sides" = some none)
  (z_ValueError : PySem.W.nsIn K mainGlobals "ValueError" = some none)
  (z_abs : PySem.W.nsIn K mainGlobals "abs" = some none)
  (z_all : PySem.W.nsIn K mainGlobals "all" = some none)
  (z_any : PySem.W.nsIn K mainGlobals "any" = some none)
  (z_bool : PySem.W.nsIn K mainGlobals "bool" = some none)
  (z_enumerate : PySem.W.nsIn K mainGlobals "enumerate" = some none)
  (z_int : PySem.W.nsIn K mainGlobals "int" = some none)
  (z_isinstance : PySem.W.nsIn K mainGlobals "isinstance" = some none)
  (z_len : PySem.W.nsIn K mainGlobals "len" = some none)
  (z_list : PySem.W.nsIn K mainGlobals "list" = some none)
  (z_min : PySem.W.nsIn K mainGlobals "min" = some none)
  (z_range : PySem.W.nsIn K mainGlobals "range" = some none)
  (z_set : PySem.W.nsIn K mainGlobals "set" = some none)
  (z_sorted : PySem.W.nsIn K mainGlobals "sorted" = some none)
  (z_staticmethod : PySem.W.nsIn K mainGlobals "staticmethod" = some none)
  (z_tuple : PySem.W.nsIn K mainGlobals "tuple" = some none)
  (c_EAST : PySem.W.nsIn K mainGlobals "EAST" = some (some (.int (0) t_EAST)))
  (c_WEST : PySem.W.nsIn K mainGlobals "WEST" = some (some (.int (1) t_WEST)))
  (c_LADDER_MOST : PySem.W.nsIn K mainGlobals "LADDER_MOST" = some (some (.int (6) t_LADDER_MOST)))
  (c_KINDS_MOST : PySem.W.nsIn K mainGlobals "KINDS_MOST" = some (some (.int (6) t_KINDS_MOST)))
  (c_COUPLES_MOST : PySem.W.nsIn K mainGlobals "COUPLES_MOST" = some (some (.int (12) t_COUPLES_MOST))) :
    ∃ fd : FuncData, (∀ (s : Shared) (v : Value), BindsTo s fd ⟨[v], []⟩ [("_law_script", v)]) ∧ ∀ base : Heap, K.In base → base.Ns mainGlobals mg → FnOk P w K mg base CX0 12 fa fd ["_law_script"] (sp_law K) := by
  have e : f_law = fa := Value.ref.inj (Option.some.inj ((PySem.W.mg_of X G a_law).symm.trans hfa))
  subst e
  have F_BadGoalsu_initu := fun_mk (st := s_BadGoalsu_initu) l_BadGoalsu_initu c_BadGoalsu_initu k_BadGoalsu_initu
  have F_BadLotu_initu := fun_mk (st := s_BadLotu_initu) l_BadLotu_initu c_BadLotu_initu k_BadLotu_initu
  have F_is_whole : FunD K "is_whole" "is_whole" (defArgs s_is_whole) (defBody s_is_whole) (defScope s_is_whole) [.non, .non] [] f_is_whole (PySem.W.fnOf "is_whole" "is_whole" (defArgs s_is_whole) (defBody s_is_whole) (defScope s_is_whole) (.ref q_is_whole) kV_is_whole dc_is_whole pm_is_whole an_is_whole cd_is_whole ct_is_whole) := ⟨⟨oc_is_whole, od_is_whole, _, kV_is_whole, dc_is_whole, pm_is_whole, an_is_whole, cd_is_whole, ct_is_whole, sl_is_whole, rfl, l_is_whole, c_is_whole, .inr ⟨by simp, q_is_whole, _, [Value.none, Value.none], qn_is_whole, rfl, t_is_whole, rfl, (.cons rfl (.cons rfl .nil))⟩, .inl rfl⟩, k_is_whole⟩
  have F_is_truth := fun_mk (st := s_is_truth) l_is_truth c_is_truth k_is_truth
  have F_is_sequence := fun_mk (st := s_is_sequence) l_is_sequence c_is_sequence k_is_sequence
  have F_check_side := fun_mk (st := s_check_side) l_check_side c_check_side k_check_side
  have F_are_sides := fun_mk (st := s_are_sides) l_are_sides c_are_sides k_are_sides
  have F_check_couple := fun_mk (st := s_check_couple) l_check_couple c_check_couple k_check_couple
  have F_are_kinds := fun_mk (st := s_are_kinds) l_are_kinds c_are_kinds k_are_kinds
  have F_is_lot := fun_mk (st := s_is_lot) l_is_lot c_is_lot k_is_lot
  have F_check_lot := fun_mk (st := s_check_lot) l_check_lot c_check_lot k_check_lot
  have F_is_order := fun_mk (st := s_is_order) l_is_order c_is_order k_is_order
  have F_check_side_order := fun_mk (st := s_check_side_order) l_check_side_order c_check_side_order k_check_side_order
  have F_sides_of_lines := fun_mk (st := s_sides_of_lines) l_sides_of_lines c_sides_of_lines k_sides_of_lines
  have F_renumbered_lines := fun_mk (st := s_renumbered_lines) l_renumbered_lines c_renumbered_lines k_renumbered_lines
  have F_are_ends := fun_mk (st := s_are_ends) l_are_ends c_are_ends k_are_ends
  have F_is_knowing := fun_mk (st := s_is_knowing) l_is_knowing c_is_knowing k_is_knowing
  have F_raised_end := fun_mk (st := s_raised_end) l_raised_end c_raised_end k_raised_end
  have F_Goalsu_initu : FunD K "__init__" "Goals.__init__" (defArgs s_Goalsu_initu) (defBody s_Goalsu_initu) (defScope s_Goalsu_initu) [(.ref w0_Goalsu_initu)] [] f_Goalsu_initu (PySem.W.fnOf "__init__" "Goals.__init__" (defArgs s_Goalsu_initu) (defBody s_Goalsu_initu) (defScope s_Goalsu_initu) (.ref q_Goalsu_initu) kV_Goalsu_initu dc_Goalsu_initu pm_Goalsu_initu an_Goalsu_initu cd_Goalsu_initu ct_Goalsu_initu) := ⟨⟨oc_Goalsu_initu, od_Goalsu_initu, _, kV_Goalsu_initu, dc_Goalsu_initu, pm_Goalsu_initu, an_Goalsu_initu, cd_Goalsu_initu, ct_Goalsu_initu, sl_Goalsu_initu, rfl, l_Goalsu_initu, c_Goalsu_initu, .inr ⟨by simp, q_Goalsu_initu, _, [Value.ref w0_Goalsu_initu], qn_Goalsu_initu, rfl, t_Goalsu_initu, rfl, (.cons rfl .nil)⟩, .inl rfl⟩, k_Goalsu_initu⟩
  have F_Goalsu_equ := fun_mk (st := s_Goalsu_equ) l_Goalsu_equ c_Goalsu_equ k_Goalsu_equ
  have F_Goals_kept := fun_mk (st := s_Goals_kept) l_Goals_kept c_Goals_kept k_Goals_kept
  have F_Goals_renumbered := fun_mk (st := s_Goals_renumbered) l_Goals_renumbered c_Goals_renumbered k_Goals_renumbered
  have F_Goals_raised := fun_mk (st := s_Goals_raised) l_Goals_raised c_Goals_raised k_Goals_raised
  have F_Goals_without_foes := fun_mk (st := s_Goals_without_foes) l_Goals_without_foes c_Goals_without_foes k_Goals_without_foes
  have F_Goals_with_end := fun_mk (st := s_Goals_with_end) l_Goals_with_end c_Goals_with_end k_Goals_with_end
  have F_Goals_all_wanted : FunD K "all_wanted" "Goals.all_wanted" (defArgs s_Goals_all_wanted) (defBody s_Goals_all_wanted) (defScope s_Goals_all_wanted) [(.ref w0_Goals_all_wanted)] [] f_Goals_all_wanted (PySem.W.fnOf "all_wanted" "Goals.all_wanted" (defArgs s_Goals_all_wanted) (defBody s_Goals_all_wanted) (defScope s_Goals_all_wanted) (.ref q_Goals_all_wanted) kV_Goals_all_wanted dc_Goals_all_wanted pm_Goals_all_wanted an_Goals_all_wanted cd_Goals_all_wanted ct_Goals_all_wanted) := ⟨⟨oc_Goals_all_wanted, od_Goals_all_wanted, _, kV_Goals_all_wanted, dc_Goals_all_wanted, pm_Goals_all_wanted, an_Goals_all_wanted, cd_Goals_all_wanted, ct_Goals_all_wanted, sl_Goals_all_wanted, rfl, l_Goals_all_wanted, c_Goals_all_wanted, .inr ⟨by simp, q_Goals_all_wanted, _, [Value.ref w0_Goals_all_wanted], qn_Goals_all_wanted, rfl, t_Goals_all_wanted, rfl, (.cons rfl .nil)⟩, .inl rfl⟩, k_Goals_all_wanted⟩
  have F_Lmix := fun_mk (st := s_Lmix) l_Lmix c_Lmix k_Lmix
  have F_Lhand := fun_mk (st := s_Lhand) l_Lhand c_Lhand k_Lhand
  have F_Ldraw := fun_mk (st := s_Ldraw) l_Ldraw c_Ldraw k_Ldraw
  have F_Lwhole := fun_mk (st := s_Lwhole) l_Lwhole c_Lwhole k_Lwhole
  have F_Lis := fun_mk (st := s_Lis) l_Lis c_Lis k_Lis
  have F_Lwide_sides := fun_mk (st := s_Lwide_sides) l_Lwide_sides c_Lwide_sides k_Lwide_sides
  have F_Lends := fun_mk (st := s_Lends) l_Lends c_Lends k_Lends
  have F_Lneat := fun_mk (st := s_Lneat) l_Lneat c_Lneat k_Lneat
  have F_Lraw_wanted := fun_mk (st := s_Lraw_wanted) l_Lraw_wanted c_Lraw_wanted k_Lraw_wanted
  have F_Lneat_wanted := fun_mk (st := s_Lneat_wanted) l_Lneat_wanted c_Lneat_wanted k_Lneat_wanted
  have F_Ltruths := fun_mk (st := s_Ltruths) l_Ltruths c_Ltruths k_Ltruths
  have F_Lgoal_facts := fun_mk (st := s_Lgoal_facts) l_Lgoal_facts c_Lgoal_facts k_Lgoal_facts
  have F_Lorder := fun_mk (st := s_Lorder) l_Lorder c_Lorder k_Lorder
  have F_Llot := fun_mk (st := s_Llot) l_Llot c_Llot k_Llot
  have F_Lkept := fun_mk (st := s_Lkept) l_Lkept c_Lkept k_Lkept
  have F_Lrenumbered := fun_mk (st := s_Lrenumbered) l_Lrenumbered c_Lrenumbered k_Lrenumbered
  have F_Lraised := fun_mk (st := s_Lraised) l_Lraised c_Lraised k_Lraised
  have F_Lwithout := fun_mk (st := s_Lwithout) l_Lwithout c_Lwithout k_Lwithout
  have F_Lended := fun_mk (st := s_Lended) l_Lended c_Lended k_Lended
  have F_Lall := fun_mk (st := s_Lall) l_Lall c_Lall k_Lall
  have F_Lcut_right := fun_mk (st := s_Lcut_right) l_Lcut_right c_Lcut_right k_Lcut_right
  have F_Lraise_right := fun_mk (st := s_Lraise_right) l_Lraise_right c_Lraise_right k_Lraise_right
  have F_law := fun_mk (st := s_law) l_law c_law k_law
  let T : Tx := {
    f_BadGoalsu_initu := f_BadGoalsu_initu,
    d_BadGoalsu_initu := PySem.W.fnOf "__init__" "BadGoals.__init__" (defArgs s_BadGoalsu_initu) (defBody s_BadGoalsu_initu) (defScope s_BadGoalsu_initu) .none kV_BadGoalsu_initu dc_BadGoalsu_initu pm_BadGoalsu_initu an_BadGoalsu_initu cd_BadGoalsu_initu ct_BadGoalsu_initu,
    f_BadLotu_initu := f_BadLotu_initu,
    d_BadLotu_initu := PySem.W.fnOf "__init__" "BadLot.__init__" (defArgs s_BadLotu_initu) (defBody s_BadLotu_initu) (defScope s_BadLotu_initu) .none kV_BadLotu_initu dc_BadLotu_initu pm_BadLotu_initu an_BadLotu_initu cd_BadLotu_initu ct_BadLotu_initu,
    f_is_whole := f_is_whole,
    d_is_whole := PySem.W.fnOf "is_whole" "is_whole" (defArgs s_is_whole) (defBody s_is_whole) (defScope s_is_whole) (.ref q_is_whole) kV_is_whole dc_is_whole pm_is_whole an_is_whole cd_is_whole ct_is_whole,
    e1_is_whole := [Value.none],
    e2_is_whole := [Value.none, Value.none],
    f_is_truth := f_is_truth,
    d_is_truth := PySem.W.fnOf "is_truth" "is_truth" (defArgs s_is_truth) (defBody s_is_truth) (defScope s_is_truth) .none kV_is_truth dc_is_truth pm_is_truth an_is_truth cd_is_truth ct_is_truth,
    f_is_sequence := f_is_sequence,
    d_is_sequence := PySem.W.fnOf "is_sequence" "is_sequence" (defArgs s_is_sequence) (defBody s_is_sequence) (defScope s_is_sequence) .none kV_is_sequence dc_is_sequence pm_is_sequence an_is_sequence cd_is_sequence ct_is_sequence,
    f_check_side := f_check_side,
    d_check_side := PySem.W.fnOf "check_side" "check_side" (defArgs s_check_side) (defBody s_check_side) (defScope s_check_side) .none kV_check_side dc_check_side pm_check_side an_check_side cd_check_side ct_check_side,
    f_are_sides := f_are_sides,
    d_are_sides := PySem.W.fnOf "are_sides" "are_sides" (defArgs s_are_sides) (defBody s_are_sides) (defScope s_are_sides) .none kV_are_sides dc_are_sides pm_are_sides an_are_sides cd_are_sides ct_are_sides,
    f_check_couple := f_check_couple,
    d_check_couple := PySem.W.fnOf "check_couple" "check_couple" (defArgs s_check_couple) (defBody s_check_couple) (defScope s_check_couple) .none kV_check_couple dc_check_couple pm_check_couple an_check_couple cd_check_couple ct_check_couple,
    f_are_kinds := f_are_kinds,
    d_are_kinds := PySem.W.fnOf "are_kinds" "are_kinds" (defArgs s_are_kinds) (defBody s_are_kinds) (defScope s_are_kinds) .none kV_are_kinds dc_are_kinds pm_are_kinds an_are_kinds cd_are_kinds ct_are_kinds,
    f_is_lot := f_is_lot,
    d_is_lot := PySem.W.fnOf "is_lot" "is_lot" (defArgs s_is_lot) (defBody s_is_lot) (defScope s_is_lot) .none kV_is_lot dc_is_lot pm_is_lot an_is_lot cd_is_lot ct_is_lot,
    f_check_lot := f_check_lot,
    d_check_lot := PySem.W.fnOf "check_lot" "check_lot" (defArgs s_check_lot) (defBody s_check_lot) (defScope s_check_lot) .none kV_check_lot dc_check_lot pm_check_lot an_check_lot cd_check_lot ct_check_lot,
    f_is_order := f_is_order,
    d_is_order := PySem.W.fnOf "is_order" "is_order" (defArgs s_is_order) (defBody s_is_order) (defScope s_is_order) .none kV_is_order dc_is_order pm_is_order an_is_order cd_is_order ct_is_order,
    f_check_side_order := f_check_side_order,
    d_check_side_order := PySem.W.fnOf "check_side_order" "check_side_order" (defArgs s_check_side_order) (defBody s_check_side_order) (defScope s_check_side_order) .none kV_check_side_order dc_check_side_order pm_check_side_order an_check_side_order cd_check_side_order ct_check_side_order,
    f_sides_of_lines := f_sides_of_lines,
    d_sides_of_lines := PySem.W.fnOf "sides_of_lines" "sides_of_lines" (defArgs s_sides_of_lines) (defBody s_sides_of_lines) (defScope s_sides_of_lines) .none kV_sides_of_lines dc_sides_of_lines pm_sides_of_lines an_sides_of_lines cd_sides_of_lines ct_sides_of_lines,
    f_renumbered_lines := f_renumbered_lines,
    d_renumbered_lines := PySem.W.fnOf "renumbered_lines" "renumbered_lines" (defArgs s_renumbered_lines) (defBody s_renumbered_lines) (defScope s_renumbered_lines) .none kV_renumbered_lines dc_renumbered_lines pm_renumbered_lines an_renumbered_lines cd_renumbered_lines ct_renumbered_lines,
    f_are_ends := f_are_ends,
    d_are_ends := PySem.W.fnOf "are_ends" "are_ends" (defArgs s_are_ends) (defBody s_are_ends) (defScope s_are_ends) .none kV_are_ends dc_are_ends pm_are_ends an_are_ends cd_are_ends ct_are_ends,
    f_is_knowing := f_is_knowing,
    d_is_knowing := PySem.W.fnOf "is_knowing" "is_knowing" (defArgs s_is_knowing) (defBody s_is_knowing) (defScope s_is_knowing) .none kV_is_knowing dc_is_knowing pm_is_knowing an_is_knowing cd_is_knowing ct_is_knowing,
    f_raised_end := f_raised_end,
    d_raised_end := PySem.W.fnOf "raised_end" "raised_end" (defArgs s_raised_end) (defBody s_raised_end) (defScope s_raised_end) .none kV_raised_end dc_raised_end pm_raised_end an_raised_end cd_raised_end ct_raised_end,
    f_Goalsu_initu := f_Goalsu_initu,
    d_Goalsu_initu := PySem.W.fnOf "__init__" "Goals.__init__" (defArgs s_Goalsu_initu) (defBody s_Goalsu_initu) (defScope s_Goalsu_initu) (.ref q_Goalsu_initu) kV_Goalsu_initu dc_Goalsu_initu pm_Goalsu_initu an_Goalsu_initu cd_Goalsu_initu ct_Goalsu_initu,
    w0_Goalsu_initu := w0_Goalsu_initu,
    e1_Goalsu_initu := [Value.ref w0_Goalsu_initu],
    f_Goalsu_equ := f_Goalsu_equ,
    d_Goalsu_equ := PySem.W.fnOf "__eq__" "Goals.__eq__" (defArgs s_Goalsu_equ) (defBody s_Goalsu_equ) (defScope s_Goalsu_equ) .none kV_Goalsu_equ dc_Goalsu_equ pm_Goalsu_equ an_Goalsu_equ cd_Goalsu_equ ct_Goalsu_equ,
    f_Goals_kept := f_Goals_kept,
    d_Goals_kept := PySem.W.fnOf "kept" "Goals.kept" (defArgs s_Goals_kept) (defBody s_Goals_kept) (defScope s_Goals_kept) .none kV_Goals_kept dc_Goals_kept pm_Goals_kept an_Goals_kept cd_Goals_kept ct_Goals_kept,
    f_Goals_renumbered := f_Goals_renumbered,
    d_Goals_renumbered := PySem.W.fnOf "renumbered" "Goals.renumbered" (defArgs s_Goals_renumbered) (defBody s_Goals_renumbered) (defScope s_Goals_renumbered) .none kV_Goals_renumbered dc_Goals_renumbered pm_Goals_renumbered an_Goals_renumbered cd_Goals_renumbered ct_Goals_renumbered,
    f_Goals_raised := f_Goals_raised,
    d_Goals_raised := PySem.W.fnOf "raised" "Goals.raised" (defArgs s_Goals_raised) (defBody s_Goals_raised) (defScope s_Goals_raised) .none kV_Goals_raised dc_Goals_raised pm_Goals_raised an_Goals_raised cd_Goals_raised ct_Goals_raised,
    f_Goals_without_foes := f_Goals_without_foes,
    d_Goals_without_foes := PySem.W.fnOf "without_foes" "Goals.without_foes" (defArgs s_Goals_without_foes) (defBody s_Goals_without_foes) (defScope s_Goals_without_foes) .none kV_Goals_without_foes dc_Goals_without_foes pm_Goals_without_foes an_Goals_without_foes cd_Goals_without_foes ct_Goals_without_foes,
    f_Goals_with_end := f_Goals_with_end,
    d_Goals_with_end := PySem.W.fnOf "with_end" "Goals.with_end" (defArgs s_Goals_with_end) (defBody s_Goals_with_end) (defScope s_Goals_with_end) .none kV_Goals_with_end dc_Goals_with_end pm_Goals_with_end an_Goals_with_end cd_Goals_with_end ct_Goals_with_end,
    p_Goals_all_wanted := p_Goals_all_wanted,
    f_Goals_all_wanted := f_Goals_all_wanted,
    d_Goals_all_wanted := PySem.W.fnOf "all_wanted" "Goals.all_wanted" (defArgs s_Goals_all_wanted) (defBody s_Goals_all_wanted) (defScope s_Goals_all_wanted) (.ref q_Goals_all_wanted) kV_Goals_all_wanted dc_Goals_all_wanted pm_Goals_all_wanted an_Goals_all_wanted cd_Goals_all_wanted ct_Goals_all_wanted,
    w0_Goals_all_wanted := w0_Goals_all_wanted,
    e1_Goals_all_wanted := [Value.ref w0_Goals_all_wanted],
    f_Lmix := f_Lmix,
    d_Lmix := PySem.W.fnOf "_law_mix" "_law_mix" (defArgs s_Lmix) (defBody s_Lmix) (defScope s_Lmix) .none kV_Lmix dc_Lmix pm_Lmix an_Lmix cd_Lmix ct_Lmix,
    f_Lhand := f_Lhand,
    d_Lhand := PySem.W.fnOf "_law_hand" "_law_hand" (defArgs s_Lhand) (defBody s_Lhand) (defScope s_Lhand) .none kV_Lhand dc_Lhand pm_Lhand an_Lhand cd_Lhand ct_Lhand,
    f_Ldraw := f_Ldraw,
    d_Ldraw := PySem.W.fnOf "_law_draw" "_law_draw" (defArgs s_Ldraw) (defBody s_Ldraw) (defScope s_Ldraw) .none kV_Ldraw dc_Ldraw pm_Ldraw an_Ldraw cd_Ldraw ct_Ldraw,
    f_Lwhole := f_Lwhole,
    d_Lwhole := PySem.W.fnOf "_law_whole" "_law_whole" (defArgs s_Lwhole) (defBody s_Lwhole) (defScope s_Lwhole) .none kV_Lwhole dc_Lwhole pm_Lwhole an_Lwhole cd_Lwhole ct_Lwhole,
    f_Lis := f_Lis,
    d_Lis := PySem.W.fnOf "_law_is" "_law_is" (defArgs s_Lis) (defBody s_Lis) (defScope s_Lis) .none kV_Lis dc_Lis pm_Lis an_Lis cd_Lis ct_Lis,
    f_Lwide_sides := f_Lwide_sides,
    d_Lwide_sides := PySem.W.fnOf "_law_wide_sides" "_law_wide_sides" (defArgs s_Lwide_sides) (defBody s_Lwide_sides) (defScope s_Lwide_sides) .none kV_Lwide_sides dc_Lwide_sides pm_Lwide_sides an_Lwide_sides cd_Lwide_sides ct_Lwide_sides,
    f_Lends := f_Lends,
    d_Lends := PySem.W.fnOf "_law_ends" "_law_ends" (defArgs s_Lends) (defBody s_Lends) (defScope s_Lends) .none kV_Lends dc_Lends pm_Lends an_Lends cd_Lends ct_Lends,
    f_Lneat := f_Lneat,
    d_Lneat := PySem.W.fnOf "_law_neat" "_law_neat" (defArgs s_Lneat) (defBody s_Lneat) (defScope s_Lneat) .none kV_Lneat dc_Lneat pm_Lneat an_Lneat cd_Lneat ct_Lneat,
    f_Lraw_wanted := f_Lraw_wanted,
    d_Lraw_wanted := PySem.W.fnOf "_law_raw_wanted" "_law_raw_wanted" (defArgs s_Lraw_wanted) (defBody s_Lraw_wanted) (defScope s_Lraw_wanted) .none kV_Lraw_wanted dc_Lraw_wanted pm_Lraw_wanted an_Lraw_wanted cd_Lraw_wanted ct_Lraw_wanted,
    f_Lneat_wanted := f_Lneat_wanted,
    d_Lneat_wanted := PySem.W.fnOf "_law_neat_wanted" "_law_neat_wanted" (defArgs s_Lneat_wanted) (defBody s_Lneat_wanted) (defScope s_Lneat_wanted) .none kV_Lneat_wanted dc_Lneat_wanted pm_Lneat_wanted an_Lneat_wanted cd_Lneat_wanted ct_Lneat_wanted,
    f_Ltruths := f_Ltruths,
    d_Ltruths := PySem.W.fnOf "_law_truths" "_law_truths" (defArgs s_Ltruths) (defBody s_Ltruths) (defScope s_Ltruths) .none kV_Ltruths dc_Ltruths pm_Ltruths an_Ltruths cd_Ltruths ct_Ltruths,
    f_Lgoal_facts := f_Lgoal_facts,
    d_Lgoal_facts := PySem.W.fnOf "_law_goal_facts" "_law_goal_facts" (defArgs s_Lgoal_facts) (defBody s_Lgoal_facts) (defScope s_Lgoal_facts) .none kV_Lgoal_facts dc_Lgoal_facts pm_Lgoal_facts an_Lgoal_facts cd_Lgoal_facts ct_Lgoal_facts,
    f_Lorder := f_Lorder,
    d_Lorder := PySem.W.fnOf "_law_order" "_law_order" (defArgs s_Lorder) (defBody s_Lorder) (defScope s_Lorder) .none kV_Lorder dc_Lorder pm_Lorder an_Lorder cd_Lorder ct_Lorder,
    f_Llot := f_Llot,
    d_Llot := PySem.W.fnOf "_law_lot" "_law_lot" (defArgs s_Llot) (defBody s_Llot) (defScope s_Llot) .none kV_Llot dc_Llot pm_Llot an_Llot cd_Llot ct_Llot,
    f_Lkept := f_Lkept,
    d_Lkept := PySem.W.fnOf "_law_kept" "_law_kept" (defArgs s_Lkept) (defBody s_Lkept) (defScope s_Lkept) .none kV_Lkept dc_Lkept pm_Lkept an_Lkept cd_Lkept ct_Lkept,
    f_Lrenumbered := f_Lrenumbered,
    d_Lrenumbered := PySem.W.fnOf "_law_renumbered" "_law_renumbered" (defArgs s_Lrenumbered) (defBody s_Lrenumbered) (defScope s_Lrenumbered) .none kV_Lrenumbered dc_Lrenumbered pm_Lrenumbered an_Lrenumbered cd_Lrenumbered ct_Lrenumbered,
    f_Lraised := f_Lraised,
    d_Lraised := PySem.W.fnOf "_law_raised" "_law_raised" (defArgs s_Lraised) (defBody s_Lraised) (defScope s_Lraised) .none kV_Lraised dc_Lraised pm_Lraised an_Lraised cd_Lraised ct_Lraised,
    f_Lwithout := f_Lwithout,
    d_Lwithout := PySem.W.fnOf "_law_without" "_law_without" (defArgs s_Lwithout) (defBody s_Lwithout) (defScope s_Lwithout) .none kV_Lwithout dc_Lwithout pm_Lwithout an_Lwithout cd_Lwithout ct_Lwithout,
    f_Lended := f_Lended,
    d_Lended := PySem.W.fnOf "_law_ended" "_law_ended" (defArgs s_Lended) (defBody s_Lended) (defScope s_Lended) .none kV_Lended dc_Lended pm_Lended an_Lended cd_Lended ct_Lended,
    f_Lall := f_Lall,
    d_Lall := PySem.W.fnOf "_law_all" "_law_all" (defArgs s_Lall) (defBody s_Lall) (defScope s_Lall) .none kV_Lall dc_Lall pm_Lall an_Lall cd_Lall ct_Lall,
    f_Lcut_right := f_Lcut_right,
    d_Lcut_right := PySem.W.fnOf "_law_cut_right" "_law_cut_right" (defArgs s_Lcut_right) (defBody s_Lcut_right) (defScope s_Lcut_right) .none kV_Lcut_right dc_Lcut_right pm_Lcut_right an_Lcut_right cd_Lcut_right ct_Lcut_right,
    f_Lraise_right := f_Lraise_right,
    d_Lraise_right := PySem.W.fnOf "_law_raise_right" "_law_raise_right" (defArgs s_Lraise_right) (defBody s_Lraise_right) (defScope s_Lraise_right) .none kV_Lraise_right dc_Lraise_right pm_Lraise_right an_Lraise_right cd_Lraise_right ct_Lraise_right,
    f_law := f_law,
    d_law := PySem.W.fnOf "law" "law" (defArgs s_law) (defBody s_law) (defScope s_law) .none kV_law dc_law pm_law an_law cd_law ct_law,
    C_CallError := C_CallError,
    C_BadGoals := C_BadGoals,
    C_BadCouple := C_BadCouple,
    C_BadLot := C_BadLot,
    C_BadSide := C_BadSide,
    C_BadEnd := C_BadEnd,
    C_Goals := C_Goals,
    t_EAST := t_EAST,
    t_WEST := t_WEST,
    t_LADDER_MOST := t_LADDER_MOST,
    t_KINDS_MOST := t_KINDS_MOST,
    t_COUPLES_MOST := t_COUPLES_MOST }
  have O : Ok K mg T := {
    F_BadGoalsu_initu := F_BadGoalsu_initu,
    b_BadGoalsu_initu := F_BadGoalsu_initu.binds (ps := ["self", "what"]) fun _ _ _ _ _ _ us hl => match us, hl with | [_, _], _ => rfl,
    F_BadLotu_initu := F_BadLotu_initu,
    b_BadLotu_initu := F_BadLotu_initu.binds (ps := ["self", "side"]) fun _ _ _ _ _ _ us hl => match us, hl with | [_, _], _ => rfl,
    F_is_whole := F_is_whole,
    b_is_whole := Jv.bindsD (K := K) (T := q_is_whole) (m := 3) t_is_whole rfl rfl fun us hl => match us, hl with | [_, _, _], _ => ⟨_, rfl, rfl⟩,
    b1_is_whole := ⟨(.cons rfl .nil), Jv.bindsD (K := K) (T := q_is_whole) (m := 2) t_is_whole rfl rfl fun us hl => match us, hl with | [_, _], _ => ⟨_, rfl, rfl⟩⟩,
    b2_is_whole := ⟨(.cons rfl (.cons rfl .nil)), Jv.bindsD (K := K) (T := q_is_whole) (m := 1) t_is_whole rfl rfl fun us hl => match us, hl with | [_], _ => ⟨_, rfl, rfl⟩⟩,
    m_is_whole := PySem.W.mg_of X G a_is_whole,
    F_is_truth := F_is_truth,
    b_is_truth := F_is_truth.binds (ps := ["thing"]) fun _ _ _ _ _ _ us hl => match us, hl with | [_], _ => rfl,
    m_is_truth := PySem.W.mg_of X G a_is_truth,
    F_is_sequence := F_is_sequence,
    b_is_sequence := F_is_sequence.binds (ps := ["thing"]) fun _ _ _ _ _ _ us hl => match us, hl with | [_], _ => rfl,
    m_is_sequence := PySem.W.mg_of X G a_is_sequence,
    F_check_side := F_check_side,
    b_check_side := F_check_side.binds (ps := ["side"]) fun _ _ _ _ _ _ us hl => match us, hl with | [_], _ => rfl,
    m_check_side := PySem.W.mg_of X G a_check_side,
    F_are_sides := F_are_sides,
    b_are_sides := F_are_sides.binds (ps := ["thing"]) fun _ _ _ _ _ _ us hl => match us, hl with | [_], _ => rfl,
    m_are_sides := PySem.W.mg_of X G a_are_sides,
    F_check_couple := F_check_couple,
    b_check_couple := F_check_couple.binds (ps := ["sides", "couple"]) fun _ _ _ _ _ _ us hl => match us, hl with | [_, _], _ => rfl,
    m_check_couple := PySem.W.mg_of X G a_check_couple,
    F_are_kinds := F_are_kinds,
    b_are_kinds := F_are_kinds.binds (ps := ["thing", "kinds"]) fun _ _ _ _ _ _ us hl => match us, hl with | [_, _], _ => rfl,
    m_are_kinds := PySem.W.mg_of X G a_are_kinds,
    F_is_lot := F_is_lot,
    b_is_lot := F_is_lot.binds (ps := ["thing", "kinds"]) fun _ _ _ _ _ _ us hl => match us, hl with | [_, _], _ => rfl,
    m_is_lot := PySem.W.mg_of X G a_is_lot,
    F_check_lot := F_check_lot,
    b_check_lot := F_check_lot.binds (ps := ["lot", "kinds", "side"]) fun _ _ _ _ _ _ us hl => match us, hl with | [_, _, _], _ => rfl,
    m_check_lot := PySem.W.mg_of X G a_check_lot,
    F_is_order := F_is_order,
    b_is_order := F_is_order.binds (ps := ["thing", "many"]) fun _ _ _ _ _ _ us hl => match us, hl with | [_, _], _ => rfl,
    m_is_order := PySem.W.mg_of X G a_is_order,
    F_check_side_order := F_check_side_order,
    b_check_side_order := F_check_side_order.binds (ps := ["order", "kinds", "side"]) fun _ _ _ _ _ _ us hl => match us, hl with | [_, _, _], _ => rfl,
    m_check_side_order := PySem.W.mg_of X G a_check_side_order,
    F_sides_of_lines := F_sides_of_lines,
    b_sides_of_lines := F_sides_of_lines.binds (ps := ["lines"]) fun _ _ _ _ _ _ us hl => match us, hl with | [_], _ => rfl,
    m_sides_of_lines := PySem.W.mg_of X G a_sides_of_lines,
    F_renumbered_lines := F_renumbered_lines,
    b_renumbered_lines := F_renumbered_lines.binds (ps := ["lines", "side", "order"]) fun _ _ _ _ _ _ us hl => match us, hl with | [_, _, _], _ => rfl,
    m_renumbered_lines := PySem.W.mg_of X G a_renumbered_lines,
    F_are_ends := F_are_ends,
    b_are_ends := F_are_ends.binds (ps := ["thing", "ladder"]) fun _ _ _ _ _ _ us hl => match us, hl with | [_, _], _ => rfl,
    m_are_ends := PySem.W.mg_of X G a_are_ends,
    F_is_knowing := F_is_knowing,
    b_is_knowing := F_is_knowing.binds (ps := ["thing"]) fun _ _ _ _ _ _ us hl => match us, hl with | [_], _ => rfl,
    m_is_knowing := PySem.W.mg_of X G a_is_knowing,
    F_raised_end := F_raised_end,
    b_raised_end := F_raised_end.binds (ps := ["end", "by"]) fun _ _ _ _ _ _ us hl => match us, hl with | [_, _], _ => rfl,
    m_raised_end := PySem.W.mg_of X G a_raised_end,
    y0_Goalsu_initu := fun _ => .inr ⟨_, _, _, w0_Goalsu_initu_, rfl, rfl, Nat.le_of_ble_eq_true rfl, (.cons rfl (.cons rfl .nil))⟩,
    F_Goalsu_initu := F_Goalsu_initu,
    b_Goalsu_initu := Jv.bindsD (K := K) (T := q_Goalsu_initu) (m := 4) t_Goalsu_initu rfl rfl fun us hl => match us, hl with | [_, _, _, _], _ => ⟨_, rfl, rfl⟩,
    b1_Goalsu_initu := ⟨(.cons rfl .nil), Jv.bindsD (K := K) (T := q_Goalsu_initu) (m := 3) t_Goalsu_initu rfl rfl fun us hl => match us, hl with | [_, _, _], _ => ⟨_, rfl, rfl⟩⟩,
    F_Goalsu_equ := F_Goalsu_equ,
    b_Goalsu_equ := F_Goalsu_equ.binds (ps := ["self", "other"]) fun _ _ _ _ _ _ us hl => match us, hl with | [_, _], _ => rfl,
    F_Goals_kept := F_Goals_kept,
    b_Goals_kept := F_Goals_kept.binds (ps := ["self", "east_lot", "west_lot"]) fun _ _ _ _ _ _ us hl => match us, hl with | [_, _, _], _ => rfl,
    F_Goals_renumbered := F_Goals_renumbered,
    b_Goals_renumbered := F_Goals_renumbered.binds (ps := ["self", "side", "order"]) fun _ _ _ _ _ _ us hl => match us, hl with | [_, _, _], _ => rfl,
    F_Goals_raised := F_Goals_raised,
    b_Goals_raised := F_Goals_raised.binds (ps := ["self", "by"]) fun _ _ _ _ _ _ us hl => match us, hl with | [_, _], _ => rfl,
    F_Goals_without_foes := F_Goals_without_foes,
    b_Goals_without_foes := F_Goals_without_foes.binds (ps := ["self"]) fun _ _ _ _ _ _ us hl => match us, hl with | [_], _ => rfl,
    F_Goals_with_end := F_Goals_with_end,
    b_Goals_with_end := F_Goals_with_end.binds (ps := ["self", "couple", "end"]) fun _ _ _ _ _ _ us hl => match us, hl with | [_, _, _], _ => rfl,
    s_Goals_all_wanted := ⟨sr_Goals_all_wanted, sg_Goals_all_wanted, a_Goals_all_wanted, ⟨_, r_Goals_all_wanted⟩, k_Goals_all_wanted⟩,
    y0_Goals_all_wanted := fun _ => .inr ⟨_, _, _, w0_Goals_all_wanted_, rfl, rfl, Nat.le_of_ble_eq_true rfl, (.cons rfl (.cons rfl .nil))⟩,
    F_Goals_all_wanted := F_Goals_all_wanted,
    b_Goals_all_wanted := Jv.bindsD (K := K) (T := q_Goals_all_wanted) (m := 3) t_Goals_all_wanted rfl rfl fun us hl => match us, hl with | [_, _, _], _ => ⟨_, rfl, rfl⟩,
    b1_Goals_all_wanted := ⟨(.cons rfl .nil), Jv.bindsD (K := K) (T := q_Goals_all_wanted) (m := 2) t_Goals_all_wanted rfl rfl fun us hl => match us, hl with | [_, _], _ => ⟨_, rfl, rfl⟩⟩,
    F_Lmix := F_Lmix,
    b_Lmix := F_Lmix.binds (ps := ["_law_number", "_law_turn"]) fun _ _ _ _ _ _ us hl => match us, hl with | [_, _], _ => rfl,
    m_Lmix := PySem.W.mg_of X G a_Lmix,
    F_Lhand := F_Lhand,
    b_Lhand := F_Lhand.binds (ps := ["_law_script"]) fun _ _ _ _ _ _ us hl => match us, hl with | [_], _ => rfl,
    m_Lhand := PySem.W.mg_of X G a_Lhand,
    F_Ldraw := F_Ldraw,
    b_Ldraw := F_Ldraw.binds (ps := ["_law_hand_here", "_law_many"]) fun _ _ _ _ _ _ us hl => match us, hl with | [_, _], _ => rfl,
    m_Ldraw := PySem.W.mg_of X G a_Ldraw,
    F_Lwhole := F_Lwhole,
    b_Lwhole := F_Lwhole.binds (ps := ["_law_thing"]) fun _ _ _ _ _ _ us hl => match us, hl with | [_], _ => rfl,
    m_Lwhole := PySem.W.mg_of X G a_Lwhole,
    F_Lis := F_Lis,
    b_Lis := F_Lis.binds (ps := ["_law_thing", "_law_due"]) fun _ _ _ _ _ _ us hl => match us, hl with | [_, _], _ => rfl,
    m_Lis := PySem.W.mg_of X G a_Lis,
    F_Lwide_sides := F_Lwide_sides,
    b_Lwide_sides := F_Lwide_sides.binds (ps := ["_law_hand_here"]) fun _ _ _ _ _ _ us hl => match us, hl with | [_], _ => rfl,
    m_Lwide_sides := PySem.W.mg_of X G a_Lwide_sides,
    F_Lends := F_Lends,
    b_Lends := F_Lends.binds (ps := ["_law_hand_here", "_law_ladder"]) fun _ _ _ _ _ _ us hl => match us, hl with | [_, _], _ => rfl,
    m_Lends := PySem.W.mg_of X G a_Lends,
    F_Lneat := F_Lneat,
    b_Lneat := F_Lneat.binds (ps := ["_law_ends_here", "_law_ladder"]) fun _ _ _ _ _ _ us hl => match us, hl with | [_, _], _ => rfl,
    m_Lneat := PySem.W.mg_of X G a_Lneat,
    F_Lraw_wanted := F_Lraw_wanted,
    b_Lraw_wanted := F_Lraw_wanted.binds (ps := ["_law_hand_here", "_law_sides", "_law_ladder"]) fun _ _ _ _ _ _ us hl => match us, hl with | [_, _, _], _ => rfl,
    m_Lraw_wanted := PySem.W.mg_of X G a_Lraw_wanted,
    F_Lneat_wanted := F_Lneat_wanted,
    b_Lneat_wanted := F_Lneat_wanted.binds (ps := ["_law_lines", "_law_ladder"]) fun _ _ _ _ _ _ us hl => match us, hl with | [_, _], _ => rfl,
    m_Lneat_wanted := PySem.W.mg_of X G a_Lneat_wanted,
    F_Ltruths := F_Ltruths,
    b_Ltruths := F_Ltruths.binds (ps := ["_law_hand_here"]) fun _ _ _ _ _ _ us hl => match us, hl with | [_], _ => rfl,
    m_Ltruths := PySem.W.mg_of X G a_Ltruths,
    F_Lgoal_facts := F_Lgoal_facts,
    b_Lgoal_facts := F_Lgoal_facts.binds (ps := ["_law_goals", "_law_ladder", "_law_wanted", "_law_known"]) fun _ _ _ _ _ _ us hl => match us, hl with | [_, _, _, _], _ => rfl,
    m_Lgoal_facts := PySem.W.mg_of X G a_Lgoal_facts,
    F_Lorder := F_Lorder,
    b_Lorder := F_Lorder.binds (ps := ["_law_hand_here", "_law_many"]) fun _ _ _ _ _ _ us hl => match us, hl with | [_, _], _ => rfl,
    m_Lorder := PySem.W.mg_of X G a_Lorder,
    F_Llot := F_Llot,
    b_Llot := F_Llot.binds (ps := ["_law_hand_here", "_law_many"]) fun _ _ _ _ _ _ us hl => match us, hl with | [_, _], _ => rfl,
    m_Llot := PySem.W.mg_of X G a_Llot,
    F_Lkept := F_Lkept,
    b_Lkept := F_Lkept.binds (ps := ["_law_goals", "_law_east_lot", "_law_west_lot"]) fun _ _ _ _ _ _ us hl => match us, hl with | [_, _, _], _ => rfl,
    m_Lkept := PySem.W.mg_of X G a_Lkept,
    F_Lrenumbered := F_Lrenumbered,
    b_Lrenumbered := F_Lrenumbered.binds (ps := ["_law_goals", "_law_side", "_law_order_here"]) fun _ _ _ _ _ _ us hl => match us, hl with | [_, _, _], _ => rfl,
    m_Lrenumbered := PySem.W.mg_of X G a_Lrenumbered,
    F_Lraised := F_Lraised,
    b_Lraised := F_Lraised.binds (ps := ["_law_goals", "_law_by"]) fun _ _ _ _ _ _ us hl => match us, hl with | [_, _], _ => rfl,
    m_Lraised := PySem.W.mg_of X G a_Lraised,
    F_Lwithout := F_Lwithout,
    b_Lwithout := F_Lwithout.binds (ps := ["_law_goals"]) fun _ _ _ _ _ _ us hl => match us, hl with | [_], _ => rfl,
    m_Lwithout := PySem.W.mg_of X G a_Lwithout,
    F_Lended := F_Lended,
    b_Lended := F_Lended.binds (ps := ["_law_goals", "_law_couple", "_law_end"]) fun _ _ _ _ _ _ us hl => match us, hl with | [_, _, _], _ => rfl,
    m_Lended := PySem.W.mg_of X G a_Lended,
    F_Lall := F_Lall,
    b_Lall := F_Lall.binds (ps := ["_law_sides", "_law_ladder", "_law_knows"]) fun _ _ _ _ _ _ us hl => match us, hl with | [_, _, _], _ => rfl,
    m_Lall := PySem.W.mg_of X G a_Lall,
    F_Lcut_right := F_Lcut_right,
    b_Lcut_right := F_Lcut_right.binds (ps := ["_law_hand_here", "_law_goals", "_law_sides", "_law_one"]) fun _ _ _ _ _ _ us hl => match us, hl with | [_, _, _, _], _ => rfl,
    m_Lcut_right := PySem.W.mg_of X G a_Lcut_right,
    F_Lraise_right := F_Lraise_right,
    b_Lraise_right := F_Lraise_right.binds (ps := ["_law_goals", "_law_one"]) fun _ _ _ _ _ _ us hl => match us, hl with | [_, _], _ => rfl,
    m_Lraise_right := PySem.W.mg_of X G a_Lraise_right,
    F_law := F_law,
    b_law := F_law.binds (ps := ["_law_script"]) fun _ _ _ _ _ _ us hl => match us, hl with | [_], _ => rfl,
    m_law := PySem.W.mg_of X G a_law,
    m_CallError := PySem.W.mg_of X G a_CallError,
    e_CallError := ⟨x_CallError, k_CallError, b_CallError, t_CallError, i_CallError, s_CallError⟩,
    m_BadGoals := PySem.W.mg_of X G a_BadGoals,
    x_BadGoals := ⟨⟨⟨nm_BadGoals, qn_BadGoals, N_BadGoals, bs_BadGoals, _, sn_BadGoals, sb_BadGoals, ab_BadGoals, co_BadGoals, dd_BadGoals, m0_BadGoals, m1_BadGoals, m2_BadGoals, m3_BadGoals, m5_BadGoals, x_BadGoals, rfl⟩, sa_BadGoals, b_BadGoals, t_BadGoals, k_BadGoals⟩, a_BadGoalsu_initu, y_BadGoals, i_BadGoals, s_BadGoals, ⟨ga_BadGoals, gg_BadGoals, b_BadGoals, hd_BadGoals⟩⟩,
    n_BadGoals_what := n_BadGoals_what,
    m_BadCouple := PySem.W.mg_of X G a_BadCouple,
    e_BadCouple := ⟨x_BadCouple, k_BadCouple, b_BadCouple, t_BadCouple, i_BadCouple, s_BadCouple⟩,
    m_BadLot := PySem.W.mg_of X G a_BadLot,
    u_BadLot_BadSide := u_BadLot_BadSide,
    x_BadLot := ⟨⟨⟨nm_BadLot, qn_BadLot, N_BadLot, bs_BadLot, _, sn_BadLot, sb_BadLot, ab_BadLot, co_BadLot, dd_BadLot, m0_BadLot, m1_BadLot, m2_BadLot, m3_BadLot, m5_BadLot, x_BadLot, rfl⟩, sa_BadLot, b_BadLot, t_BadLot, k_BadLot⟩, a_BadLotu_initu, y_BadLot, i_BadLot, s_BadLot, ⟨ga_BadLot, gg_BadLot, b_BadLot, hd_BadLot⟩⟩,
    n_BadLot_side := n_BadLot_side,
    m_BadSide := PySem.W.mg_of X G a_BadSide,
    e_BadSide := ⟨x_BadSide, k_BadSide, b_BadSide, t_BadSide, i_BadSide, s_BadSide⟩,
    m_BadEnd := PySem.W.mg_of X G a_BadEnd,
    u_BadEnd_BadCouple := u_BadEnd_BadCouple,
    e_BadEnd := ⟨x_BadEnd, k_BadEnd, b_BadEnd, t_BadEnd, i_BadEnd, s_BadEnd⟩,
    m_Goals := PySem.W.mg_of X G a_Goals,
    o_Goals := ⟨pg_Goals, hd_Goals, po_Goals, sa_Goals⟩,
    k_Goals := ⟨mk_Goals, a_Goalsu_initu, fn_Goalsu_initu, kp_Goals⟩,
    h_Goalsu_equ := ⟨a_Goalsu_equ, fn_Goalsu_equ, k_Goalsu_equ⟩,
    h_Goals_kept := ⟨a_Goals_kept, fn_Goals_kept, k_Goals_kept⟩,
    h_Goals_renumbered := ⟨a_Goals_renumbered, fn_Goals_renumbered, k_Goals_renumbered⟩,
    h_Goals_raised := ⟨a_Goals_raised, fn_Goals_raised, k_Goals_raised⟩,
    h_Goals_without_foes := ⟨a_Goals_without_foes, fn_Goals_without_foes, k_Goals_without_foes⟩,
    h_Goals_with_end := ⟨a_Goals_with_end, fn_Goals_with_end, k_Goals_with_end⟩,
    n_Goals_ladder := n_Goals_ladder,
    n_Goals_wanted := n_Goals_wanted,
    n_Goals_knows := n_Goals_knows,
    n_Goals_sides := n_Goals_sides,
    z_ValueError := PySem.W.mg_none_of X G z_ValueError,
    z_abs := PySem.W.mg_none_of X G z_abs,
    z_all := PySem.W.mg_none_of X G z_all,
    z_any := PySem.W.mg_none_of X G z_any,
    z_bool := PySem.W.mg_none_of X G z_bool,
    z_enumerate := PySem.W.mg_none_of X G z_enumerate,
    z_int := PySem.W.mg_none_of X G z_int,
    z_isinstance := PySem.W.mg_none_of X G z_isinstance,
    z_len := PySem.W.mg_none_of X G z_len,
    z_list := PySem.W.mg_none_of X G z_list,
    z_min := PySem.W.mg_none_of X G z_min,
    z_range := PySem.W.mg_none_of X G z_range,
    z_set := PySem.W.mg_none_of X G z_set,
    z_sorted := PySem.W.mg_none_of X G z_sorted,
    z_staticmethod := PySem.W.mg_none_of X G z_staticmethod,
    z_tuple := PySem.W.mg_none_of X G z_tuple,
    c_EAST := PySem.W.mg_of X G c_EAST,
    c_WEST := PySem.W.mg_of X G c_WEST,
    c_LADDER_MOST := PySem.W.mg_of X G c_LADDER_MOST,
    c_KINDS_MOST := PySem.W.mg_of X G c_KINDS_MOST,
    c_COUPLES_MOST := PySem.W.mg_of X G c_COUPLES_MOST }
  exact ⟨T.d_law, fun s v => .of_eq rfl, fun base _ _ => ok_law T O⟩
end K04
open PySem PySem.W PyProof.Rows
set_option maxHeartbeats 0 in
theorem PySem.Challenge.cw_risingcalls_k04_whole_goals_made_of_goal_holds : PySem.Challenge.rw_risingcalls_k04_whole_goals_made_of_goal.Holds := by
  w_on; o_law; k_head; (case hw => w_witness2)
  k_fill
  refine L2.walk_of (l := PySem.Challenge.rw_risingcalls_k04_whole_goals_made_of_goal) (n := 63) (k := 12) (x := "_law_script") (CX := fun _ => L2.CX0) (sp := fun w => K04.sp_law _) rfl (by decide) rfl ⟨rfl, by decide, by decide⟩ (fun w h Y => PySem.W.kIn_of Y) ?F (fun _ _ a ns hl _ hS => ⟨a, ns, rfl, hS, hl, fun _ => rfl⟩) (fun _ _ _ _ _ h => h)
  case F =>
    intro w mg fa h KX G hmg
    refine' K04.all_mk KX G hmg ?a_CallError ?a_BadGoals ?a_BadCouple ?a_BadLot ?a_BadSide ?a_BadEnd ?a_Goals ?a_BadGoalsu_initu ?l_BadGoalsu_initu ?c_BadGoalsu_initu ?k_BadGoalsu_initu ?a_BadLotu_initu ?l_BadLotu_initu ?c_BadLotu_initu ?k_BadLotu_initu ?a_is_whole ?l_is_whole ?c_is_whole ?k_is_whole ?t_is_whole ?a_is_truth ?l_is_truth ?c_is_truth ?k_is_truth ?a_is_sequence ?l_is_sequence ?c_is_sequence ?k_is_sequence ?a_check_side ?l_check_side ?c_check_side ?k_check_side ?a_are_sides ?l_are_sides ?c_are_sides ?k_are_sides ?a_check_couple ?l_check_couple ?c_check_couple ?k_check_couple ?a_are_kinds ?l_are_kinds ?c_are_kinds ?k_are_kinds ?a_is_lot ?l_is_lot ?c_is_lot ?k_is_lot ?a_check_lot ?l_check_lot ?c_check_lot ?k_check_lot ?a_is_order ?l_is_order ?c_is_order ?k_is_order ?a_check_side_order ?l_check_side_order ?c_check_side_order ?k_check_side_order ?a_sides_of_lines ?l_sides_of_lines ?c_sides_of_lines ?k_sides_of_lines ?a_renumbered_lines ?l_renumbered_lines ?c_renumbered_lines ?k_renumbered_lines ?a_are_ends ?l_are_ends ?c_are_ends ?k_are_ends ?a_is_knowing ?l_is_knowing ?c_is_knowing ?k_is_knowing ?a_raised_end ?l_raised_end ?c_raised_end ?k_raised_end ?a_Goalsu_initu ?l_Goalsu_initu ?c_Goalsu_initu ?k_Goalsu_initu ?t_Goalsu_initu ?w0_Goalsu_initu_ ?a_Goalsu_equ ?l_Goalsu_equ ?c_Goalsu_equ ?k_Goalsu_equ ?a_Goals_kept ?l_Goals_kept ?c_Goals_kept ?k_Goals_kept ?a_Goals_renumbered ?l_Goals_renumbered ?c_Goals_renumbered ?k_Goals_renumbered ?a_Goals_raised ?l_Goals_raised ?c_Goals_raised ?k_Goals_raised ?a_Goals_without_foes ?l_Goals_without_foes ?c_Goals_without_foes ?k_Goals_without_foes ?a_Goals_with_end ?l_Goals_with_end ?c_Goals_with_end ?k_Goals_with_end ?a_Goals_all_wanted ?r_Goals_all_wanted ?sr_Goals_all_wanted ?sg_Goals_all_wanted ?l_Goals_all_wanted ?c_Goals_all_wanted ?k_Goals_all_wanted ?t_Goals_all_wanted ?w0_Goals_all_wanted_ ?a_Lmix ?l_Lmix ?c_Lmix ?k_Lmix ?a_Lhand ?l_Lhand ?c_Lhand ?k_Lhand ?a_Ldraw ?l_Ldraw ?c_Ldraw ?k_Ldraw ?a_Lwhole ?l_Lwhole ?c_Lwhole ?k_Lwhole ?a_Lis ?l_Lis ?c_Lis ?k_Lis ?a_Lwide_sides ?l_Lwide_sides ?c_Lwide_sides ?k_Lwide_sides ?a_Lends ?l_Lends ?c_Lends ?k_Lends ?a_Lneat ?l_Lneat ?c_Lneat ?k_Lneat ?a_Lraw_wanted ?l_Lraw_wanted ?c_Lraw_wanted ?k_Lraw_wanted ?a_Lneat_wanted ?l_Lneat_wanted ?c_Lneat_wanted ?k_Lneat_wanted ?a_Ltruths ?l_Ltruths ?c_Ltruths ?k_Ltruths ?a_Lgoal_facts ?l_Lgoal_facts ?c_Lgoal_facts ?k_Lgoal_facts ?a_Lorder ?l_Lorder ?c_Lorder ?k_Lorder ?a_Llot ?l_Llot ?c_Llot ?k_Llot ?a_Lkept ?l_Lkept ?c_Lkept ?k_Lkept ?a_Lrenumbered ?l_Lrenumbered ?c_Lrenumbered ?k_Lrenumbered ?a_Lraised ?l_Lraised ?c_Lraised ?k_Lraised ?a_Lwithout ?l_Lwithout ?c_Lwithout ?k_Lwithout ?a_Lended ?l_Lended ?c_Lended ?k_Lended ?a_Lall ?l_Lall ?c_Lall ?k_Lall ?a_Lcut_right ?l_Lcut_right ?c_Lcut_right ?k_Lcut_right ?a_Lraise_right ?l_Lraise_right ?c_Lraise_right ?k_Lraise_right ?a_law ?l_law ?c_law ?k_law ?k_CallError ?b_CallError ?t_CallError ?i_CallError ?s_CallError ?x_CallError ?k_BadGoals ?b_BadGoals ?t_BadGoals ?i_BadGoals ?s_BadGoals ?x_BadGoals ?sa_BadGoals ?ga_BadGoals ?gg_BadGoals ?hd_BadGoals ?y_BadGoals ?n_BadGoals_what ?k_BadCouple ?b_BadCouple ?t_BadCouple ?i_BadCouple ?s_BadCouple ?x_BadCouple ?u_BadLot_BadSide ?k_BadLot ?b_BadLot ?t_BadLot ?i_BadLot ?s_BadLot ?x_BadLot ?sa_BadLot ?ga_BadLot ?gg_BadLot ?hd_BadLot ?y_BadLot ?n_BadLot_side ?k_BadSide ?b_BadSide ?t_BadSide ?i_BadSide ?s_BadSide ?x_BadSide ?u_BadEnd_BadCouple ?k_BadEnd ?b_BadEnd ?t_BadEnd ?i_BadEnd ?s_BadEnd ?x_BadEnd ?kp_Goals ?pg_Goals ?hd_Goals ?po_Goals ?sa_Goals ?mk_Goals ?fn_Goalsu_initu ?fn_Goalsu_equ ?fn_Goals_kept ?fn_Goals_renumbered ?fn_Goals_raised ?fn_Goals_without_foes ?fn_Goals_with_end ?n_Goals_ladder ?n_Goals_wanted ?n_Goals_knows ?n_Goals_sides ?z_ValueError ?z_abs ?z_all ?z_any ?z_bool ?z_enumerate ?z_int ?z_isinstance ?z_len ?z_list ?z_min ?z_range ?z_set ?z_sorted ?z_staticmethod ?z_tuple ?c_EAST ?c_WEST ?c_LADDER_MOST ?c_KINDS_MOST ?c_COUPLES_MOST
    (case a_CallError => k_is)
    (case a_BadGoals => k_is)
    (case a_BadCouple => k_is)
    (case a_BadLot => k_is)
    (case a_BadSide => k_is)
    (case a_BadEnd => k_is)
    (case a_Goals => k_is)
    (case a_BadGoalsu_initu => k_is)
    (case l_BadGoalsu_initu => k_is)
    (case c_BadGoalsu_initu => k_is)
    (case k_BadGoalsu_initu => k_is)
    (case a_BadLotu_initu => k_is)
    (case l_BadLotu_initu => k_is)
    (case c_BadLotu_initu => k_is)
    (case k_BadLotu_initu => k_is)
    (case a_is_whole => k_is)
    (case l_is_whole => k_is)
    (case c_is_whole => k_is)
    (case k_is_whole => k_is)
    (case t_is_whole => k_is)
    (case a_is_truth => k_is)
    (case l_is_truth => k_is)
    (case c_is_truth => k_is)
    (case k_is_truth => k_is)
    (case a_is_sequence => k_is)
    (case l_is_sequence => k_is)
    (case c_is_sequence => k_is)
    (case k_is_sequence => k_is)
    (case a_check_side => k_is)
    (case l_check_side => k_is)
    (case c_check_side => k_is)
    (case k_check_side => k_is)
    (case a_are_sides => k_is)
    (case l_are_sides => k_is)
    (case c_are_sides => k_is)
    (case k_are_sides => k_is)
    (case a_check_couple => k_is)
    (case l_check_couple => k_is)
    (case c_check_couple => k_is)
    (case k_check_couple => k_is)
    (case a_are_kinds => k_is)
    (case l_are_kinds => k_is)
    (case c_are_kinds => k_is)
    (case k_are_kinds => k_is)
    (case a_is_lot => k_is)
    (case l_is_lot => k_is)
    (case c_is_lot => k_is)
    (case k_is_lot => k_is)
    (case a_check_lot => k_is)
    (case l_check_lot => k_is)
    (case c_check_lot => k_is)
    (case k_check_lot => k_is)
    (case a_is_order => k_is)
    (case l_is_order => k_is)
    (case c_is_order => k_is)
    (case k_is_order => k_is)
    (case a_check_side_order => k_is)
    (case l_check_side_order => k_is)
    (case c_check_side_order => k_is)
    (case k_check_side_order => k_is)
    (case a_sides_of_lines => k_is)
    (case l_sides_of_lines => k_is)
    (case c_sides_of_lines => k_is)
    (case k_sides_of_lines => k_is)
    (case a_renumbered_lines => k_is)
    (case l_renumbered_lines => k_is)
    (case c_renumbered_lines => k_is)
    (case k_renumbered_lines => k_is)
    (case a_are_ends => k_is)
    (case l_are_ends => k_is)
    (case c_are_ends => k_is)
    (case k_are_ends => k_is)
    (case a_is_knowing => k_is)
    (case l_is_knowing => k_is)
    (case c_is_knowing => k_is)
    (case k_is_knowing => k_is)
    (case a_raised_end => k_is)
    (case l_raised_end => k_is)
    (case c_raised_end => k_is)
    (case k_raised_end => k_is)
    (case a_Goalsu_initu => k_is)
    (case l_Goalsu_initu => k_is)
    (case c_Goalsu_initu => k_is)
    (case k_Goalsu_initu => k_is)
    (case t_Goalsu_initu => k_is)
    (case w0_Goalsu_initu_ => k_is)
    (case a_Goalsu_equ => k_is)
    (case l_Goalsu_equ => k_is)
    (case c_Goalsu_equ => k_is)
    (case k_Goalsu_equ => k_is)
    (case a_Goals_kept => k_is)
    (case l_Goals_kept => k_is)
    (case c_Goals_kept => k_is)
    (case k_Goals_kept => k_is)
    (case a_Goals_renumbered => k_is)
    (case l_Goals_renumbered => k_is)
    (case c_Goals_renumbered => k_is)
    (case k_Goals_renumbered => k_is)
    (case a_Goals_raised => k_is)
    (case l_Goals_raised => k_is)
    (case c_Goals_raised => k_is)
    (case k_Goals_raised => k_is)
    (case a_Goals_without_foes => k_is)
    (case l_Goals_without_foes => k_is)
    (case c_Goals_without_foes => k_is)
    (case k_Goals_without_foes => k_is)
    (case a_Goals_with_end => k_is)
    (case l_Goals_with_end => k_is)
    (case c_Goals_with_end => k_is)
    (case k_Goals_with_end => k_is)
    (case a_Goals_all_wanted => k_is)
    (case r_Goals_all_wanted => k_is)
    (case sr_Goals_all_wanted => k_is)
    (case sg_Goals_all_wanted => k_is)
    (case l_Goals_all_wanted => k_is)
    (case c_Goals_all_wanted => k_is)
    (case k_Goals_all_wanted => k_is)
    (case t_Goals_all_wanted => k_is)
    (case w0_Goals_all_wanted_ => k_is)
    (case a_Lmix => k_is)
    (case l_Lmix => k_is)
    (case c_Lmix => k_is)
    (case k_Lmix => k_is)
    (case a_Lhand => k_is)
    (case l_Lhand => k_is)
    (case c_Lhand => k_is)
    (case k_Lhand => k_is)
    (case a_Ldraw => k_is)
    (case l_Ldraw => k_is)
    (case c_Ldraw => k_is)
    (case k_Ldraw => k_is)
    (case a_Lwhole => k_is)
    (case l_Lwhole => k_is)
    (case c_Lwhole => k_is)
    (case k_Lwhole => k_is)
    (case a_Lis => k_is)
    (case l_Lis => k_is)
    (case c_Lis => k_is)
    (case k_Lis => k_is)
    (case a_Lwide_sides => k_is)
    (case l_Lwide_sides => k_is)
    (case c_Lwide_sides => k_is)
    (case k_Lwide_sides => k_is)
    (case a_Lends => k_is)
    (case l_Lends => k_is)
    (case c_Lends => k_is)
    (case k_Lends => k_is)
    (case a_Lneat => k_is)
    (case l_Lneat => k_is)
    (case c_Lneat => k_is)
    (case k_Lneat => k_is)
    (case a_Lraw_wanted => k_is)
    (case l_Lraw_wanted => k_is)
    (case c_Lraw_wanted => k_is)
    (case k_Lraw_wanted => k_is)
    (case a_Lneat_wanted => k_is)
    (case l_Lneat_wanted => k_is)
    (case c_Lneat_wanted => k_is)
    (case k_Lneat_wanted => k_is)
    (case a_Ltruths => k_is)
    (case l_Ltruths => k_is)
    (case c_Ltruths => k_is)
    (case k_Ltruths => k_is)
    (case a_Lgoal_facts => k_is)
    (case l_Lgoal_facts => k_is)
    (case c_Lgoal_facts => k_is)
    (case k_Lgoal_facts => k_is)
    (case a_Lorder => k_is)
    (case l_Lorder => k_is)
    (case c_Lorder => k_is)
    (case k_Lorder => k_is)
    (case a_Llot => k_is)
    (case l_Llot => k_is)
    (case c_Llot => k_is)
    (case k_Llot => k_is)
    (case a_Lkept => k_is)
    (case l_Lkept => k_is)
    (case c_Lkept => k_is)
    (case k_Lkept => k_is)
    (case a_Lrenumbered => k_is)
    (case l_Lrenumbered => k_is)
    (case c_Lrenumbered => k_is)
    (case k_Lrenumbered => k_is)
    (case a_Lraised => k_is)
    (case l_Lraised => k_is)
    (case c_Lraised => k_is)
    (case k_Lraised => k_is)
    (case a_Lwithout => k_is)
    (case l_Lwithout => k_is)
    (case c_Lwithout => k_is)
    (case k_Lwithout => k_is)
    (case a_Lended => k_is)
    (case l_Lended => k_is)
    (case c_Lended => k_is)
    (case k_Lended => k_is)
    (case a_Lall => k_is)
    (case l_Lall => k_is)
    (case c_Lall => k_is)
    (case k_Lall => k_is)
    (case a_Lcut_right => k_is)
    (case l_Lcut_right => k_is)
    (case c_Lcut_right => k_is)
    (case k_Lcut_right => k_is)
    (case a_Lraise_right => k_is)
    (case l_Lraise_right => k_is)
    (case c_Lraise_right => k_is)
    (case k_Lraise_right => k_is)
    (case a_law => k_is)
    (case l_law => k_is)
    (case c_law => k_is)
    (case k_law => k_is)
    (case k_CallError => k_is)
    (case b_CallError => k_is)
    (case t_CallError => k_is)
    (case i_CallError => k_is)
    (case s_CallError => first | rfl | k_is)
    (case x_CallError => k_exc)
    (case k_BadGoals => k_is)
    (case b_BadGoals => k_is)
    (case t_BadGoals => k_is)
    (case i_BadGoals => k_is)
    (case s_BadGoals => first | rfl | k_is)
    (case x_BadGoals => k_is)
    (case sa_BadGoals => k_is)
    (case ga_BadGoals => k_is)
    (case gg_BadGoals => k_is)
    (case hd_BadGoals => k_is)
    (case y_BadGoals => k_is)
    (case n_BadGoals_what => k_is)
    (case k_BadCouple => k_is)
    (case b_BadCouple => k_is)
    (case t_BadCouple => k_is)
    (case i_BadCouple => k_is)
    (case s_BadCouple => first | rfl | k_is)
    (case x_BadCouple => k_exc)
    (case u_BadLot_BadSide => first | rfl | k_is)
    (case k_BadLot => k_is)
    (case b_BadLot => k_is)
    (case t_BadLot => k_is)
    (case i_BadLot => k_is)
    (case s_BadLot => first | rfl | k_is)
    (case x_BadLot => k_is)
    (case sa_BadLot => k_is)
    (case ga_BadLot => k_is)
    (case gg_BadLot => k_is)
    (case hd_BadLot => k_is)
    (case y_BadLot => k_is)
    (case n_BadLot_side => k_is)
    (case k_BadSide => k_is)
    (case b_BadSide => k_is)
    (case t_BadSide => k_is)
    (case i_BadSide => k_is)
    (case s_BadSide => first | rfl | k_is)
    (case x_BadSide => k_exc)
    (case u_BadEnd_BadCouple => first | rfl | k_is)
    (case k_BadEnd => k_is)
    (case b_BadEnd => k_is)
    (case t_BadEnd => k_is)
    (case i_BadEnd => k_is)
    (case s_BadEnd => first | rfl | k_is)
    (case x_BadEnd => k_exc)
    (case kp_Goals => k_is)
    (case pg_Goals => k_is)
    (case hd_Goals => k_is)
    (case po_Goals => k_is)
    (case sa_Goals => k_is)
    (case mk_Goals => k_is)
    (case fn_Goalsu_initu => k_is)
    (case fn_Goalsu_equ => k_is)
    (case fn_Goals_kept => k_is)
    (case fn_Goals_renumbered => k_is)
    (case fn_Goals_raised => k_is)
    (case fn_Goals_without_foes => k_is)
    (case fn_Goals_with_end => k_is)
    (case n_Goals_ladder => k_is)
    (case n_Goals_wanted => k_is)
    (case n_Goals_knows => k_is)
    (case n_Goals_sides => k_is)
    (case z_ValueError => k_is)
    (case z_abs => k_is)
    (case z_all => k_is)
    (case z_any => k_is)
    (case z_bool => k_is)
    (case z_enumerate => k_is)
    (case z_int => k_is)
    (case z_isinstance => k_is)
    (case z_len => k_is)
    (case z_list => k_is)
    (case z_min => k_is)
    (case z_range => k_is)
    (case z_set => k_is)
    (case z_sorted => k_is)
    (case z_staticmethod => k_is)
    (case z_tuple => k_is)
    (case c_EAST => k_is)
    (case c_WEST => k_is)
    (case c_LADDER_MOST => k_is)
    (case c_KINDS_MOST => k_is)
    (case c_COUPLES_MOST => k_is)

