import PyProof.Rows.All
import Wide.All
import OpenK.AllK
import Wide.FinOn
import PyProof.EqAt
import PyProof.EqKinds
import PyProof.TupleCall
import HandS.ForMost
import HandS.ForExc
import HandS.Wide
import HandS.IsInst
import HandS.SortInts
import HandS.Strs
import HandS.SetFor
import HandS.Conv
import HandS.Small
import HandS.Defaults
import HandS.Walk
import HandS.Flow
import HandS.Codes
import HandS.ExcInit
import HandS.ExcField
import HandS.Style
import HandS.TryMany
import PySem.Challenge.RW_risingcalls_k02_whole_goals_made_and_ref
import HandS.TupAny
import HandS.MakeKw
import PyProof.ReprRoads
import PyProof.ReprLen
set_option Elab.async false
set_option linter.all false
set_option maxRecDepth 100000
set_option maxHeartbeats 2000000

/-! ### my words for readings: one lemma a construct, by the head of the reading -/
namespace Jv
open PySem PySem.Spec PyProof.Rows L2
section
variable {K : PySem.W.Frag} {σ : L2.St} {H : Hp} {D : Ends} {t u : TS} {te ta tb tc : TE} {g : TG} {tt tu : TT} {tA : TA} {i : Nat} {v x y z : V} {Q : VK} {R : Bool → Hp → Prop}
theorem r_seq (h : t { D with nx := u D } σ H) : tSeq t u D σ H := h
theorem r_asg (h : te σ H fun x H1 => g x σ H1 D.nx) : tAsg te g D σ H := h
theorem r_gn {Q : L2.St → Hp → Prop} (h : Q (σ.set i (some v)) H) : gName i v σ H Q := h
theorem r_ret (h : te σ H D.rt) : tRet te D σ H := h
theorem r_retN (h : D.rt .non H) : tRetN D σ H := h
theorem r_drop (h : te σ H fun _ H1 => D.nx σ H1) : tDrop te D σ H := h
theorem r_if (h : tt σ H fun b H1 => if b = true then t D σ H1 else u D σ H1) : tIfS tt t u D σ H := h
theorem r_next (h : D.nx σ H) : tNext D σ H := h
theorem r_brk (h : D.bk σ H) : tBreak D σ H := h
theorem r_cont (h : D.ct σ H) : tCont D σ H := h
theorem r_var (h : σ[i]? = some (some v)) (q : Q v H) : tVar i σ H Q := ⟨v, h, q⟩
theorem r_c (q : Q v H) : tC v σ H Q := q
theorem r_op {r : R2} (h : ta σ H fun x H1 => tb σ H1 fun y H2 => r x y H2 Q) : tOp r ta tb σ H Q := h
theorem r_un {r : V → Hp → VK → Prop} (h : ta σ H fun x H1 => r x H1 Q) : tUn r ta σ H Q := h
theorem r_I {C : Int → Int → Prop} {f : Int → Int → V} {a b : Int} (c : C a b) (q : Q (f a b) H) : rI C f (.int a) (.int b) H Q := ⟨a, b, rfl, rfl, c, q⟩
theorem r_I0 {f : Int → Int → V} {a b : Int} (q : Q (f a b) H) : rI0 f (.int a) (.int b) H Q := ⟨a, b, rfl, rfl, q⟩
theorem r_U {f : Int → V} {a : Int} (q : Q (f a) H) : rU f (.int a) H Q := ⟨a, rfl, q⟩
theorem r_eq (s : scal x y = true) (q : Q (.bl (decide (x = y))) H) : rEq x y H Q := ⟨s, q⟩
theorem r_ne (s : scal x y = true) (q : Q (.bl (!decide (x = y))) H) : rNe x y H Q := ⟨s, q⟩
theorem r_test (h : te σ H fun x H1 => ∃ k, x = .bl k ∧ R k H1) : tTest te σ H R := h
theorem r_B (h : te σ H fun x H1 => ∃ k, x = .bl k ∧ R k H1) : tB te σ H R := h
theorem r_bl {b : Bool} {P : Bool → Prop} (q : P b) : ∃ k, V.bl b = .bl k ∧ P k := ⟨b, rfl, q⟩
theorem r_and (h : tt σ H fun c H1 => if c = true then tu σ H1 R else R false H1) : tAnd tt tu σ H R := h
theorem r_or (h : tt σ H fun c H1 => if c = true then R true H1 else tu σ H1 R) : tOr tt tu σ H R := h
theorem r_not (h : tt σ H fun c H1 => R (!c) H1) : tNot tt σ H R := h
theorem r_andV (h : ta σ H fun x H1 => ∃ c, x = .bl c ∧ if c = true then tb σ H1 Q else Q (.bl false) H1) : tAndV ta tb σ H Q := h
theorem r_orV (h : ta σ H fun x H1 => ∃ c, x = .bl c ∧ if c = true then Q (.bl true) H1 else tb σ H1 Q) : tOrV ta tb σ H Q := h
theorem r_notV (h : ta σ H fun x H1 => ∃ c, x = .bl c ∧ Q (.bl (!c)) H1) : tNotV ta σ H Q := h
theorem r_ife (h : tt σ H fun c H1 => if c = true then ta σ H1 Q else tb σ H1 Q) : tIf tt ta tb σ H Q := h
theorem r_chain {r r' : R2} (h : ta σ H fun x H1 => tb σ H1 fun y H2 => r x y H2 fun z H3 => ∃ k, z = .bl k ∧
  (if k = true then tc σ H3 fun w' H4 => r' y w' H4 Q else Q (.bl false) H3)) : tChain r r' ta tb tc σ H Q := h
theorem r_nil {P : List V → Hp → Prop} (q : P [] H) : tNil σ H P := q
theorem r_cons {P : List V → Hp → Prop} (h : ta σ H fun x H1 => tA σ H1 fun xs H2 => P (x :: xs) H2) : tCons ta tA σ H P := h
theorem r_tup (h : tA σ H fun xs H1 => xs.length ≤ sizeLine ∧ ∀ p, H1 p = none → Q (.ref p) (upd H1 p (.tup xs))) : tTup tA σ H Q := h
theorem r_lst (h : tA σ H fun xs H1 => xs.length ≤ sizeLine ∧ ∀ p, H1 p = none → Q (.ref p) (upd H1 p (.lst xs))) : tLst tA σ H Q := h
theorem r_new {n : Nat} {P : Prop} (h1 : n ≤ 1000) (q : P) : n ≤ sizeLine ∧ P := ⟨Nat.le_trans h1 (by decide), q⟩
theorem r_CB {r : List V → Hp → VK → Prop} (h : tA σ H fun vs H1 => r vs H1 Q) : tCB r tA σ H Q := h
theorem r_call {sp : Sp} {dvs : List V} {E : XK} (h : tA σ H fun vs H1 => sp (vs ++ dvs) H1 Q E) : tCall sp dvs E tA σ H Q := h
theorem r_callS {sp : Sp} {E : L2.St → XK} (h : tA σ H fun vs H1 => sp vs H1 Q (E σ)) : tCallS sp E tA σ H Q := h
theorem r_for {wi : TI} (h : wi σ H fun J H1 => ∃ W : Nat → Nat → L2.St → Hp → Prop, (∃ m, W 0 m σ H1) ∧ ∀ i m σ H, W i m σ H →
  (J.stop i H ∧ D.nx σ H) ∨ (J.go i H ∧ ∃ N : L2.St → Hp → Prop, (∀ σ' H', N σ' H' → ∃ m', m' < m ∧ W (i + 1) m' σ' H') ∧ ∀ x H', J.yld i H x H' → g x σ H' fun σ2 H2 => t { D with nx := N, ct := N, bk := D.nx } σ2 H2)) : tFor wi g t D σ H := h
theorem r_iR1 {P : It → Hp → Prop} (h : tA σ H fun vs H1 => ∃ j : Int, vs = [.int j] ∧ -(2 ^ 62) ≤ j ∧ j < 2 ^ 62 ∧ P (Itr 0 j.toNat) H1) : iRng1 tA σ H P := h
theorem r_iR2 {P : It → Hp → Prop} (h : tA σ H fun vs H1 => ∃ i j : Int, vs = [.int i, .int j] ∧ (-(2 ^ 62) ≤ i ∧ i < 2 ^ 62 ∧ -(2 ^ 62) ≤ j ∧ j < 2 ^ 62) ∧ P (Itr i (j - i).toNat) H1) : iRng2 tA σ H P := h
theorem r_sub {to ti : TE} {w : TSet} {Q : L2.St → Hp → Prop} (h : to σ H fun o H1 => ti σ H1 fun i H2 => w o i v H2 fun H3 => Q σ H3) : gSub to ti w v σ H Q := h
theorem r_ixL {p : Addr} {xs : List V} {k : Int} (h : SqL K H p xs) (e : atI xs k = some v) (q : Q v H) : rIxL K (.ref p) (.int k) H Q := ⟨p, xs, k, v, rfl, rfl, h, e, q⟩
theorem r_ixT {p : Addr} {xs : List V} {k : Int} (h : SqT K H p xs) (e : atI xs k = some v) (q : Q v H) : rIxT K (.ref p) (.int k) H Q := ⟨p, xs, k, v, rfl, rfl, h, e, q⟩
theorem r_setL {p : Addr} {xs : List V} {k : Int} {j : Nat} {P : Hp → Prop} (h : H p = some (.lst xs)) (e : ixN xs.length k = some j) (q : P (upd H p (.lst (xs.set j v)))) : rSetL (.ref p) (.int k) v H P := ⟨p, xs, k, j, rfl, rfl, h, e, q⟩
theorem r_true {A B : Prop} {c : Bool} (e : c = true) (h : A) : if c = true then A else B := by rw [if_pos e]; exact h
theorem r_false {A B : Prop} {c : Bool} (e : c = false) (h : B) : if c = true then A else B := by rw [e, if_neg Bool.false_ne_true]; exact h
theorem r_dec {A B p : Prop} {_ : Decidable p} (h1 : p → A) (h2 : ¬ p → B) : if decide p = true then A else B := by
  by_cases h : p
  · exact r_true (decide_eq_true h) (h1 h)
  · exact r_false (decide_eq_false h) (h2 h)
theorem r_ndec {A B p : Prop} {_ : Decidable p} (h1 : ¬ p → A) (h2 : p → B) : if (!decide p) = true then A else B := by
  by_cases h : p
  · exact r_false (by rw [decide_eq_true h]; rfl) (h2 h)
  · exact r_true (by rw [decide_eq_false h]; rfl) (h1 h)
theorem r_bool {A B : Prop} {c : Bool} (h1 : c = true → A) (h2 : c = false → B) : if c = true then A else B := by
  cases c
  · exact r_false rfl (h2 rfl)
  · exact r_true rfl (h1 rfl)
theorem r_int {a : Int} {P : Int → Prop} {P' : Bool → Prop} (q : P a) : (∃ i, [V.int a] = [.int i] ∧ P i) ∨ ∃ k, [V.int a] = [.bl k] ∧ P' k := .inl ⟨a, rfl, q⟩
theorem small_of {n : Nat} (h : n ≤ 1000) : n ≤ sizeLine := Nat.le_trans h (by decide)
theorem small_lt {n : Nat} (h : n < 1000) : n < sizeLine := Nat.lt_of_lt_of_le h (by decide)
/-- what stands ahead of a new object, stands behind it -/
theorem kp {a p : Addr} {o u : HO} (h : H a = some o) (n : H p = none) : upd H p u a = some o := by rw [upd_ne (ne_of_none h n)]; exact h
theorem kpO {a l : Addr} {o u : HO} (h : H a = some o) (n : a ≠ l) : upd H l u a = some o := by rw [upd_ne n]; exact h
theorem same_new {p : Addr} {u : HO} (n : H p = none) : Same H (upd H p u) := fun _ _ e => kp e n
theorem Same.sqT {H' : Hp} {a : Addr} {xs : List V} (e : Same H H') (h : SqT K H a xs) : SqT K H' a xs := by
  rcases h with (h | ⟨o, h⟩) | h
  · exact .inl (.inl (e _ _ h))
  · exact .inl (.inr ⟨o, e _ _ h⟩)
  · exact .inr h
end
end Jv

/-! ### rules that the layer lacks: set(x), sorted(x) of a list or a tuple of ints; X() of an own exception; what the top says of exceptions -/
namespace JvS
open PySem PySem.Spec PyProof.Rows L2 SrtO
section
variable {P : Program} {w : World} {A : Around} {E : Value → Shared → Prop} {s : Shared}
/-- the empty set that set() begins with -/
abbrev emptyS (w : World) : Obj := { cls := .type "set", dict := none, data := .set #[] 0 (.fresh 0 0 (!w.params.followText "set-order")) }
theorem set_listI {l : Addr} {items : Array Value} (ns : List Int) {Q : Value → Shared → Prop} (hh : A.handled = none) (hl : s.heap.IsList l items) (hv : IntsAre items.toList ns) (few : ns.length + 1 < scanBound)
    (h : ∀ (h' : Heap) (tk c : Nat), SetR w h' s.heap.objs.size (fun j => decide (j ∈ ns)) c → c ≤ ns.length → (∀ b o, s.heap.get? b = some o → h'.get? b = some o) → Q (.ref s.heap.objs.size) { s with heap := h', toks := tk }) :
    wpAny (model P w) A (call (.type "set") [.ref l]) Q E s := by
  have sz : items.size = ns.length := by simpa using IntsAre.length hv
  obtain ⟨cM, tM, eM⟩ := F.called_set.mro
  have e1 := F.called_set.made; have e2 := F.called_set.sub; have e3 := F.called_set.notType; have e4 := F.called_set.canCreate; have e5 := F.typeCall_set_1 (.ref l)
  refine wpAny_call (codeAny_of_tree (show wpAny _ _ (callAny (.type "set") _) _ _ _ from wpAny_pure ⟨Code.quiet_builtin _ (by decide +kernel), codeAny_builtin F.entry_type_call ?_⟩))
  rw [Around.under_plain (weight_type_call_type "set" [.ref l] []) rfl]
  repeat any_goals (first | wp_step | assumption)
  refine codeAny_mono (code_set_led1 (P := P) (.ref l) (E := E) (Q₁ := fun v s1 => v = .ref s.heap.objs.size ∧ s1 = { s with heap := s.heap.push (emptyS w) }) ⟨rfl, rfl⟩) fun r s1 hr => ?_
  cases r with
  | error e => exact hr
  | ok fl =>
    cases fl with
    | next => exact hr.elim
    | brk => exact hr.elim
    | cont => exact hr.elim
    | ret v =>
      obtain ⟨rfl, rfl⟩ := hr
      have atS : (s.heap.push (emptyS w)).get? s.heap.objs.size = some (emptyS w) := Heap.get?_push_size _ rfl
      have tyS : Shared.TypeIs { s with heap := s.heap.push (emptyS w) } (.ref s.heap.objs.size) "set" := ⟨_, atS, rfl⟩
      have e6 := F.called_set.init.lookup; have e7 := F.called_set.init.bind (.ref s.heap.objs.size)
      repeat any_goals (first | wp_step | assumption)
      refine codeAny_mono (codeAny_call_builtin (R := wants (fun r s2 => r = .none ∧ ∃ h' tk c, s2 = { s with heap := h', toks := tk } ∧ SetR w h' s.heap.objs.size (fun j => decide (j ∈ ns)) c ∧ c ≤ ns.length ∧
        ∀ b o, s.heap.get? b = some o → h'.get? b = some o) E) F.called_set.init.plain F.entry_set_init (check_set_init_1 tyS ?_)) fun r2 s2 hr2 => ?_
      · have old : ∀ b o, s.heap.get? b = some o → (s.heap.push (emptyS w)).get? b = some o := fun b o q => Heap.get?_push_of_some _ q
        have lS : l < s.heap.objs.size := by obtain ⟨o, q, _⟩ := hl; exact Heap.lt_size q
        obtain ⟨⟨oc, od, dt, sl⟩, ol, q1, n1, q2⟩ := hl
        simp only at q1 q2; subst q1 q2
        have ol2 := old _ _ ol
        have isl : (s.heap.push (emptyS w)).IsList l items := ⟨_, ol2, rfl, n1, rfl⟩
        have b1 := F.sub_list_set; have b2 := F.sub_list_frozenset; have b3 : (Value.type "list" == Value.type "dict") = false := by decide
        unfold Builtin.«set.__init__» noKeywords Builtin.Frozenset.updateFrom
        generalize walkIt : pyIter = PI
        wp_walk
        subst walkIt
        refine wpAny_pyIter_list isl (wpAny_bind (wpAny_runValue ?_))
        have more : (s.heap.push (emptyS w)).objs.size = s.heap.objs.size + 1 := Heap.size_push ..
        have hh3 : A.in1.in1.in1.handled = none := by simp [hh]
        have lI : l ≠ (s.heap.push (emptyS w)).objs.size := by rw [more]; exact Nat.ne_of_lt (Nat.lt_succ_of_lt lS)
        have nS : s.heap.objs.size ∉ [(s.heap.push (emptyS w)).objs.size, l] := by
          rw [more]; simp only [List.mem_cons, List.not_mem_nil, or_false, not_or]
          exact ⟨Nat.ne_of_lt (Nat.lt_succ_self _), Nat.ne_of_gt lS⟩
        refine set_update_ints ((Walks.list hh3 _ l lI items).toS) s.heap.objs.size nS ns sz few (fun i v q => ?_) (items.size - 0) 0 _ (by omega) (Nat.zero_le _) ⟨⟨_, Heap.get?_push_size _ rfl, rfl, rfl⟩, isl.push _⟩ ⟨0, Nat.le_refl 0, setR_new_at (Heap.get?_push_of_some _ atS)⟩ fun s3 c hm hc hS => ?_
        · have hi : i < ns.length := by rw [← sz]; exact (Array.getElem?_eq_some_iff.mp q).1
          obtain ⟨t, e⟩ := PyProof.Rows.IntsAre.int_at hv i v (by rw [Array.getElem?_toList]; exact q)
          exact ⟨ns[i], t, List.getElem?_eq_getElem hi, by rw [e, List.getD_eq_getElem?_getD, List.getElem?_eq_getElem hi]; rfl⟩
        · obtain ⟨h3, g3, d3, t3, o3⟩ := s3
          obtain rfl : g3 = s.gens := hm.gens
          obtain rfl : d3 = s.drawn := hm.drawn
          obtain rfl : o3 = s.os := hm.os
          rw [sz] at hc
          refine wpAny_pure (show wpAny _ _ (ret Value.none) _ _ _ from wpAny_pure ⟨rfl, h3, t3, c, rfl, hS, hc, fun b o e => ?_⟩)
          have lb : b < s.heap.objs.size := Heap.lt_size e
          exact hm.heap b o (by
            rw [more]; simp only [List.mem_cons, List.not_mem_nil, or_false, not_or]
            exact ⟨Nat.ne_of_lt lb, Nat.ne_of_lt (Nat.lt_succ_of_lt lb)⟩) (Heap.get?_push_of_some _ (old _ _ e))
      · cases r2 with
        | error e => exact hr2
        | ok f2 =>
          cases f2 with
          | next => exact hr2.elim
          | brk => exact hr2.elim
          | cont => exact hr2.elim
          | ret r =>
            obtain ⟨rfl, h', tk, c, rfl, hS, hc, keep⟩ := hr2
            repeat any_goals (first | wp_step | assumption)
            exact h _ _ _ hS hc keep
end
end JvS
namespace Jv
open PySem PySem.Spec PyProof.Rows L2
section
variable {X : Cx}
/-- set(x), x a list or a tuple of ints -/
def rSetI (K : PySem.W.Frag) (w : World) : List V → Hp → VK → Prop := fun xs H Q => ∃ (l : Addr) (ns : List Int), xs = [.ref l] ∧ (SqL K H l (ns.map V.int) ∨ SqT K H l (ns.map V.int)) ∧ ns.length ≤ 1000 ∧
  ∀ p c, H p = none → c ≤ ns.length → Q (.ref p) (upd H p (SetO w p (fun j => decide (j ∈ ns)) c))
theorem cr_setI (hc : X.calm = true) : CallR X (.type "set") (rSetI X.K X.w) := by
  intro pins s σ H xs us Q I r h
  obtain ⟨l, ns, rfl, hs, few, q⟩ := h
  rw [Vals.ref1 r]
  have fin : ∀ (h' : Heap) (tk c : Nat), SetR X.w h' s.heap.objs.size (fun j => decide (j ∈ ns)) c → c ≤ ns.length → (∀ b o, s.heap.get? b = some o → h'.get? b = some o) →
      EP X pins σ Q (.ref s.heap.objs.size) { s with heap := h', toks := tk } := fun h' tk c R hcn keep =>
    ⟨.ref s.heap.objs.size, upd H s.heap.objs.size (SetO X.w s.heap.objs.size (fun j => decide (j ∈ ns)) c), I.laid (t' := tk) keep (Nat.le_refl _) (setO_new R), rfl, q _ c (I.hok.fresh (Nat.le_refl _)) hcn⟩
  rcases hs with hs | hs
  · obtain ⟨its, rv, hl, hz⟩ := I.list hs
    exact JvS.set_listI ns (I.ok.hd hc) hl.isList (by simpa using ints_of_vals rv) (by unfold scanBound; omega) fin
  · obtain ⟨its, rv, ht, hz⟩ := I.tuple hs
    exact call_set_tupI ns (I.ok.hd hc) (show s.heap.IsTuple l its.toArray from ht) (by simpa using ints_of_vals rv) (by unfold scanBound; omega) fin
/-- either of two rules for a call -/
theorem crOr {f : Value} {r r' : List V → Hp → VK → Prop} (h : CallR X f r) (h' : CallR X f r') : CallR X f (fun xs H Q => r xs H Q ∨ r' xs H Q) := fun pins s σ H xs us Q I rv q =>
  q.elim (fun q => h pins s σ H xs us Q I rv q) fun q => h' pins s σ H xs us Q I rv q
end
/-- an own error class without an __init__ of its own -/
structure ExcP (K : PySem.W.Frag) (C : Addr) : Prop where
  x : PySem.W.excIn K C [.type "ValueError", .type "Exception", .type "BaseException", .type "object"] "ValueError.__new__" = true
  k : PySem.W.keepIn K (.ref C) = true
  b : PySem.W.subIn K (.ref C) (.type "BaseException") = some true
  t : PySem.W.typeIn K (.ref C) = some (.type "type")
  i : PySem.W.isClsIn K C = true
  s : PySem.W.subIn K (.ref C) (.ref C) = some true
theorem exm_of {K : PySem.W.Frag} {C : Addr} (b : PySem.W.subIn K (.ref C) (.type "BaseException") = some true) (i : PySem.W.isClsIn K C = true) (t : PySem.W.typeIn K (.ref C) = some (.type "type")) (s : PySem.W.subIn K (.ref C) (.ref C) = some true) :
    PySem.W.exmOne K (.ref C) (.ref C) = some true := by
  have i' : (PySem.W.clsIn K C).isSome = true := i
  unfold PySem.W.exmOne PySem.W.kitCls
  simp [b, i', t, s]
theorem ExcP.e {K : PySem.W.Frag} {C : Addr} (h : ExcP K C) : PySem.W.exmOne K (.ref C) (.ref C) = some true := exm_of h.b h.i h.t h.s
theorem ExcP.raises {X : Cx} {C : Addr} (h : ExcP X.K C) : Raises X (.ref C) := raises_own h.b h.t
/-- .. with one, at fI -/
structure ExcI (K : PySem.W.Frag) (C fI : Addr) : Prop where
  o : OexC K C
  n : PySem.W.findIn K (.ref C) "__init__" = some (some (.ref fI))
  y : PySem.W.typeIn K (.ref fI) = some (.type "function")
  i : PySem.W.isClsIn K C = true
  s : PySem.W.subIn K (.ref C) (.ref C) = some true
  f : XfC K C
theorem ExcI.e {K : PySem.W.Frag} {C fI : Addr} (h : ExcI K C fI) : PySem.W.exmOne K (.ref C) (.ref C) = some true := exm_of h.o.exC h.i h.o.tyC h.s
section
variable {X : Cx}
/-- X() -/
theorem pmk_own0 {C : Addr} {bmB : List Value} {B newId initId : String} {x : Str} {p pos : Pos} (F : ExcBaseFacts B newId initId bmB) (q : PySem.W.excIn X.K C bmB newId = true) (gC : X.mg x = some (.ref C))
    (kC : PySem.W.keepIn X.K (.ref C) = true) (r : Raises X (.ref C)) (hg : Gl X x) (hdb : (x == ("__debug__" : Str)) = false := by decide) : PMk X (.Call (.Name x p) [] [] pos) (fun _ H Q => Q (.ref C) none H) := by
  intro pins s σ H Q I h
  refine wpAny_Call_Name_kw (ld_glob I hg gC (PySem.W.callWith_K0 I.kIn kC ?_) hdb)
  obtain ⟨bm, N, nm, qn, bs, hdct, sn, sub, ab, col, dd, k0, k1, k2, k3, k5, mN, hC, hN, hni, T⟩ := exc_obj I.kIn q
  exact wpAny_call_exc_subT F T hC hN hni (fun h' e hm => mk_of I hm r h (I.hok.gone hm.new)) (Nat.zero_le _)
end
end Jv

/-! ### binding with defaults -/
namespace Jv
open PySem PySem.Spec PyProof.Rows L2
section
variable {K : PySem.W.Frag} {fd : FuncData} {ps : List Str} {T : Addr} {o : Obj} {its : Array Value} {n : Nat}
theorem bindsD {ds : List Value} {m : Nat} (l : K.lookup T = some o) (hd : o.data = .seq its n) (hm : m + ds.length = ps.length)
    (h : ∀ us : List Value, us.length = m → ∃ k, bindArgs fd ⟨us, []⟩ = seqItems? (.ref T) >>= k ∧ k (some its) = pure (ps.zip (us ++ ds))) : Binds K fd ps ds := fun s us X hl => by
  obtain ⟨k, e1, e2⟩ := h us (by rw [List.length_append] at hl; omega)
  refine BindsTo.of_looks fun M => ?_
  rw [e1]
  exact looks_items X l hd (.of_pure e2)
theorem kbD {m : Nat} {ks : List Str} {g : List Value → List Value → List Value} {gV : List V → List V → List V} (l : K.lookup T = some o) (hd : o.data = .seq its n)
    (h : ∀ us ws : List Value, us.length = m → ws.length = ks.length → ∃ k, bindArgs fd ⟨us, ks.zip ws⟩ = seqItems? (.ref T) >>= k ∧ k (some its) = pure (ps.zip (g us ws)))
    (rel : ∀ {vs : List V} {us : List Value} {zs : List V} {ws : List Value}, Vals vs us → Vals zs ws → Vals (gV vs zs) (g us ws)) : KBn K fd ps m ks g gV := by
  refine ⟨fun s us ws X h1 h2 => ?_, rel⟩
  obtain ⟨k, e1, e2⟩ := h us ws h1 h2
  refine BindsTo.of_looks fun M => ?_
  rw [e1]
  exact looks_items X l hd (.of_pure e2)
end
end Jv
namespace Jv
open PySem PySem.Spec PyProof.Rows L2
section
variable {K : PySem.W.Frag} {σ : L2.St} {H : Hp} {D : Ends} {t u : TS} {te ta tb tc : TE} {g : TG} {tt tu : TT} {tA : TA} {i : Nat} {v x y z : V} {Q : VK} {R : Bool → Hp → Prop}
theorem r_gtup {T : Addr} {xs : List V} {n : Nat} {gs : TGs} {Q : L2.St → Hp → Prop} (h : SqT K H T xs) (hl : xs.length = n) (q : gs xs σ H Q) : gTup K n gs (.ref T) σ H Q := ⟨T, xs, rfl, h, hl, q⟩
theorem r_gcons {gs : TGs} {xs : List V} {Q : L2.St → Hp → Prop} (q : g v σ H fun σ' H' => gs xs σ' H' Q) : gCons g gs (v :: xs) σ H Q := ⟨v, xs, rfl, q⟩
theorem r_gnil {Q : L2.St → Hp → Prop} (q : Q σ H) : gNil [] σ H Q := ⟨rfl, q⟩
theorem r_lc {wi : TI} {vs : List Nat} (h : wi σ H fun J H1 => ∀ D, H1 D = none → ∃ W : Nat → Nat → Hp → Prop, (∃ m, W 0 m (upd H1 D (.lst []))) ∧ ∀ i m H, W i m H →
  (J.stop i H ∧ Q (.ref D) H) ∨ (J.go i H ∧ ∃ Nx : Hp → Prop, (∀ H', Nx H' → ∃ m', m' < m ∧ W (i + 1) m' H') ∧ ∀ x H', J.yld i H x H' → g x (wipe σ vs) H' fun σ2 H2 => wipe σ2 vs = wipe σ vs ∧ tt σ2 H2 fun b H3 =>
    if b = true then te σ2 H3 fun y H4 => ∃ acc, H4 D = some (.lst acc) ∧ acc.length < sizeLine ∧ Nx (upd H4 D (.lst (acc ++ [y]))) else Nx H3)) : tLc wi g tt te vs σ H Q := h
theorem r_iE {P : It → Hp → Prop} {a : Addr} {xs : List V} (h : SqL K H a xs) (q : P (Ite K a) H) : ∃ b ys, [V.ref a] = [.ref b] ∧ SqL K H b ys ∧ P (Ite K b) H := ⟨a, xs, rfl, h, q⟩
theorem r_iEn {P : It → Hp → Prop} (h : tA σ H fun vs H1 => ∃ b ys, vs = [.ref b] ∧ SqL K H1 b ys ∧ P (Ite K b) H1) : iEnum K tA σ H P := h
theorem r_iL {P : It → Hp → Prop} (h : te σ H fun x H1 => ∃ a, x = .ref a ∧ (∃ xs, SqL K H1 a xs) ∧ P (Itl K a) H1) : iList K te σ H P := h
theorem r_iT {P : It → Hp → Prop} (h : te σ H fun x H1 => ∃ a, x = .ref a ∧ (∃ xs, SqT K H1 a xs) ∧ P (Itt K a) H1) : iTup K te σ H P := h
theorem r_yes (q : R true H) : tYes σ H R := q
theorem r_abs {a : Int} {P : Int → Prop} (q : P (if a < 0 then -a else a)) : ∃ i, [V.int a] = [.int i] ∧ P (if i < 0 then -i else i) := ⟨a, rfl, q⟩
theorem r_ift {A B : Prop} (h : A) : if true = true then A else B := by rw [if_pos rfl]; exact h
theorem r_iff {A B : Prop} (h : B) : if false = true then A else B := by rw [if_neg Bool.false_ne_true]; exact h
end
end Jv
namespace Jv
open PySem PySem.Spec PyProof.Rows L2
section
variable {K : PySem.W.Frag} {H H' : Hp} {a p l : Addr} {xs : List V} {o u : HO}
theorem sqL_new (h : SqL K H a xs) (n : H p = none) : SqL K (upd H p u) a xs := (same_new n).seq h
theorem sqT_new (h : SqT K H a xs) (n : H p = none) : SqT K (upd H p u) a xs := Jv.Same.sqT (same_new n) h
theorem sqL_at (h : H a = some (.lst xs)) : SqL K H a xs := .inl (.inl h)
theorem sqT_at (h : H a = some (.tup xs)) : SqT K H a xs := .inl (.inl h)
theorem map_at {f : Int → V} {ns : List Int} {i : Nat} {x : V} (h : (ns.map f)[i]? = some x) : ∃ z, ns[i]? = some z ∧ x = f z := by
  rw [List.getElem?_map] at h
  cases e : ns[i]? with
  | none => rw [e] at h; cases h
  | some z => rw [e] at h; exact ⟨z, rfl, (Option.some.inj h).symm⟩
end
end Jv
namespace Jv
open PySem PySem.Spec PyProof.Rows L2
theorem r_wipe {σ1 σ2 : L2.St} {vs : List Nat} {P : Prop} (e : wipe σ1 vs = wipe σ2 vs) (q : P) : wipe σ1 vs = wipe σ2 vs ∧ P := ⟨e, q⟩
end Jv
namespace Jv
open PySem PySem.Spec PyProof.Rows L2
section
variable {K : PySem.W.Frag} {H : Hp}
def rLenK (K : PySem.W.Frag) : List V → Hp → VK → Prop := fun xs H Q => ∃ x n, xs = [x] ∧ LenV K x H n ∧ Q (.int n) H
theorem cr_len {X : Cx} : CallR X (.builtin "len") (rLenK X.K) := call_len
def rAbs : List V → Hp → VK → Prop := fun xs H Q => ∃ i, xs = [.int i] ∧ Q (.int (if i < 0 then -i else i)) H
theorem cr_abs {X : Cx} : CallR X (.builtin "abs") rAbs := call_abs
def rMin2 : List V → Hp → VK → Prop := fun xs H Q => ∃ i j, xs = [.int i, .int j] ∧ Q (.int (if j < i then j else i)) H
def rMax2 : List V → Hp → VK → Prop := fun xs H Q => ∃ i j, xs = [.int i, .int j] ∧ Q (.int (if j > i then j else i)) H
def rInt : List V → Hp → VK → Prop := fun xs H Q => (∃ i, xs = [.int i] ∧ Q (.int i) H) ∨ ∃ k, xs = [.bl k] ∧ Q (.int (if k then 1 else 0)) H
theorem cr_int {X : Cx} : CallR X (.type "int") rInt := call_int1
def rListOf (K : PySem.W.Frag) : List V → Hp → VK → Prop := fun xs H Q => ∃ p ys, xs = [.ref p] ∧ (SqL K H p ys ∨ SqT K H p ys) ∧ ∀ l, H l = none → Q (.ref l) (upd H l (.lst ys))
def rTupOf (K : PySem.W.Frag) : List V → Hp → VK → Prop := fun xs H Q => ∃ p ys, xs = [.ref p] ∧ ((SqL K H p ys ∧ ∀ l, H l = none → Q (.ref l) (upd H l (.tup ys))) ∨ (SqT K H p ys ∧ Q (.ref p) H))
section
variable {Q : VK}
theorem r_len {p : Addr} {xs : List V} (h : SqL K H p xs ∨ SqT K H p xs) (q : Q (.int xs.length) H) : rLenK K [V.ref p] H Q := ⟨_, xs.length, rfl, by
  rcases h with h | h
  · exact .inl ⟨xs, h, rfl⟩
  · exact .inr ⟨xs, h, rfl⟩, q⟩
theorem r_absN {a : Int} (q : Q (.int (if a < 0 then -a else a)) H) : rAbs [.int a] H Q := ⟨a, rfl, q⟩
theorem r_min {a b : Int} (q : Q (.int (if b < a then b else a)) H) : rMin2 [.int a, .int b] H Q := ⟨a, b, rfl, q⟩
theorem r_max {a b : Int} (q : Q (.int (if b > a then b else a)) H) : rMax2 [.int a, .int b] H Q := ⟨a, b, rfl, q⟩
theorem r_intN {a : Int} (q : Q (.int a) H) : rInt [.int a] H Q := .inl ⟨a, rfl, q⟩
theorem r_listOf {p : Addr} {ys : List V} (h : SqL K H p ys ∨ SqT K H p ys) (q : ∀ l, H l = none → Q (.ref l) (upd H l (.lst ys))) : rListOf K [.ref p] H Q := ⟨p, ys, rfl, h, q⟩
theorem r_tupOfL {p : Addr} {ys : List V} (h : SqL K H p ys) (q : ∀ l, H l = none → Q (.ref l) (upd H l (.tup ys))) : rTupOf K [.ref p] H Q := ⟨p, ys, rfl, .inl ⟨h, q⟩⟩
theorem r_tupOfT {p : Addr} {ys : List V} (h : SqT K H p ys) (q : Q (.ref p) H) : rTupOf K [.ref p] H Q := ⟨p, ys, rfl, .inr ⟨h, q⟩⟩
end
theorem r_decI {A B : Prop} {a b : Int} (h1 : a = b → A) (h2 : a ≠ b → B) : if decide (V.int a = V.int b) = true then A else B := r_dec (fun h => h1 (V.int.inj h)) fun h => h2 fun e => h (by rw [e])
theorem r_ndecI {A B : Prop} {a b : Int} (h1 : a ≠ b → A) (h2 : a = b → B) : if (!decide (V.int a = V.int b)) = true then A else B := r_ndec (fun h => h1 fun e => h (by rw [e])) fun h => h2 (V.int.inj h)
theorem ixN_of {n j : Nat} (hj : j < n) : ixN n (j : Int) = some j := by
  unfold ixN
  rw [if_pos (by omega), if_pos (by omega)]
  simp
end
end Jv
namespace Jv
open PySem PySem.Spec PyProof.Rows L2
theorem at_i {xs : List V} {k : Int} {v : V} (h0 : 0 ≤ k) (h : xs[k.toNat]? = some v) : atI xs k = some v := by
  rw [show k = ((k.toNat : Nat) : Int) by omega]
  exact atI_nat h
theorem map_get {f : Int → V} {ns : List Int} {i : Nat} (h : i < ns.length) : (ns.map f)[i]? = some (f ns[i]) := by
  rw [List.getElem?_map, List.getElem?_eq_getElem h]; rfl
end Jv

/-! ### things of any sort -/
namespace Jv
open PySem PySem.Spec PyProof.Rows L2
/-- a thing that a law hands in: a scalar, or a list, a tuple, a dict that stands -/
def Th (H : Hp) : V → Prop
  | .non => True
  | .bl _ => True
  | .int _ => True
  | .str _ => True
  | .ref a => (∃ xs, H a = some (.lst xs)) ∨ (∃ xs, H a = some (.tup xs)) ∨ ∃ kvs, H a = some (.dK kvs)
  | _ => False
def isB : V → Bool
  | .bl _ => true
  | _ => false
def isI : V → Bool
  | .int _ => true
  | _ => false
/-- a list or a tuple of xs -/
def Sq (H : Hp) (x : V) (xs : List V) : Prop := ∃ a, x = .ref a ∧ (H a = some (.lst xs) ∨ H a = some (.tup xs))
def sqOf (H : Hp) : V → Option (List V)
  | .ref a => match H a with
    | some (.lst xs) => some xs
    | some (.tup xs) => some xs
    | _ => none
  | _ => none
theorem sq_some {H : Hp} {x : V} {xs : List V} (h : sqOf H x = some xs) : Sq H x xs := by
  unfold sqOf at h
  split at h
  · rename_i a
    split at h
    · rename_i ys e; cases h; exact ⟨a, rfl, .inl e⟩
    · rename_i ys e; cases h; exact ⟨a, rfl, .inr e⟩
    · cases h
  · cases h
theorem Sq.of {H : Hp} {x : V} {xs : List V} (h : Sq H x xs) : sqOf H x = some xs := by
  obtain ⟨a, rfl, h | h⟩ := h <;> simp [sqOf, h]
theorem Sq.same {H H' : Hp} {x : V} {xs : List V} (h : Sq H x xs) (s : Same H H') : Sq H' x xs := by
  obtain ⟨a, rfl, h | h⟩ := h
  · exact ⟨a, rfl, .inl (s _ _ h)⟩
  · exact ⟨a, rfl, .inr (s _ _ h)⟩
theorem Sq.th {H : Hp} {x : V} {xs : List V} (h : Sq H x xs) : Th H x := by
  obtain ⟨a, rfl, h | h⟩ := h
  · exact .inl ⟨_, h⟩
  · exact .inr (.inl ⟨_, h⟩)
theorem Th.same {H H' : Hp} {x : V} (h : Th H x) (s : Same H H') : Th H' x := by
  cases x with
  | ref a =>
    rcases h with ⟨xs, h⟩ | ⟨xs, h⟩ | ⟨xs, h⟩
    · exact .inl ⟨xs, s _ _ h⟩
    · exact .inr (.inl ⟨xs, s _ _ h⟩)
    · exact .inr (.inr ⟨xs, s _ _ h⟩)
  | _ => exact h
theorem sqOf_same {H H' : Hp} {x : V} (h : Th H x) (s : Same H H') : sqOf H' x = sqOf H x := by
  cases x with
  | ref a => rcases h with ⟨xs, h⟩ | ⟨xs, h⟩ | ⟨xs, h⟩ <;> simp [sqOf, h, s _ _ h]
  | _ => rfl
section
variable {K : PySem.W.Frag} {H : Hp} {x : V} {Q : VK}
theorem th_ty (h : Th H x) : ∃ t, TyX K H x (.type t) ∧ kitB t "bool" = some (isB x) ∧ kitB t "int" = some (isB x || isI x) ∧ kitB t "list" = some (t == "list") ∧ kitB t "tuple" = some (t == "tuple") ∧ ((t == "list") || (t == "tuple")) = (sqOf H x).isSome := by
  cases x with
  | non => exact ⟨_, .base .non, (by decide +kernel : kitB "NoneType" "bool" = some false), (by decide +kernel : kitB "NoneType" "int" = some false), by decide +kernel, by decide +kernel, (by decide +kernel : (("NoneType" == "list") || ("NoneType" == "tuple")) = false)⟩
  | bl b => exact ⟨_, .base (.bl b), (by decide +kernel : kitB "bool" "bool" = some true), (by decide +kernel : kitB "bool" "int" = some true), by decide +kernel, by decide +kernel, (by decide +kernel : (("bool" == "list") || ("bool" == "tuple")) = false)⟩
  | int i => exact ⟨_, .base (.int i), (by decide +kernel : kitB "int" "bool" = some false), (by decide +kernel : kitB "int" "int" = some true), by decide +kernel, by decide +kernel, (by decide +kernel : (("int" == "list") || ("int" == "tuple")) = false)⟩
  | str i => exact ⟨_, .base (.str i), (by decide +kernel : kitB "str" "bool" = some false), (by decide +kernel : kitB "str" "int" = some false), by decide +kernel, by decide +kernel, (by decide +kernel : (("str" == "list") || ("str" == "tuple")) = false)⟩
  | ref a =>
    rcases h with ⟨xs, h⟩ | ⟨xs, h⟩ | ⟨xs, h⟩
    · exact ⟨_, .base (.lst h), (by decide +kernel : kitB "list" "bool" = some false), (by decide +kernel : kitB "list" "int" = some false), by decide +kernel, by decide +kernel, by simp [sqOf, h]⟩
    · exact ⟨_, .base (.tup h), (by decide +kernel : kitB "tuple" "bool" = some false), (by decide +kernel : kitB "tuple" "int" = some false), by decide +kernel, by decide +kernel, by simp [sqOf, h]⟩
    · exact ⟨_, .base (.dK h), (by decide +kernel : kitB "dict" "bool" = some false), (by decide +kernel : kitB "dict" "int" = some false), by decide +kernel, by decide +kernel, by simp [sqOf, h]⟩
  | byt _ => exact h.elim
  | flt _ => exact h.elim
  | ty _ => exact h.elim
theorem r_isB (h : Th H x) (q : Q (.bl (isB x)) H) : rIsi K [x, .ty "bool"] H Q := by
  obtain ⟨t, h1, h2, _⟩ := th_ty (K := K) h
  exact ⟨x, _, _, _, _, rfl, .ty _, h1, kit_ty h2, q⟩
theorem r_isI (h : Th H x) (q : Q (.bl (isB x || isI x)) H) : rIsi K [x, .ty "int"] H Q := by
  obtain ⟨t, h1, _, h2, _⟩ := th_ty (K := K) h
  exact ⟨x, _, _, _, _, rfl, .ty _, h1, kit_ty h2, q⟩
theorem r_isS {p : Addr} (hp : H p = some (.tup [.ty "list", .ty "tuple"])) (h : Th H x) (q : Q (.bl (sqOf H x).isSome) H) : rIsiT K [x, .ref p] H Q := by
  obtain ⟨t, h1, _, _, h2, h3, h4⟩ := th_ty (K := K) h
  refine ⟨x, p, _, _, _, (sqOf H x).isSome, rfl, hp, .cons (.ty _) (.cons (.ty _) .nil), h1, ?_, q⟩
  refine kitAny_cons (kit_ty h2) (fun e => ?_) fun e => by rw [← h4, e]; rfl
  refine kitAny_cons (kit_ty h3) (fun e2 => ?_) fun e2 => by rw [← h4, e2, Bool.or_true]
  rw [kitAny_nil, ← h4, e, e2]; rfl
theorem r_rfl {a : V} {P : Prop} (q : P) : a = a ∧ P := ⟨rfl, q⟩
end
/-- is_whole's answer -/
def loOk : V → Int → Bool
  | .int l, i => decide (l ≤ i)
  | _, _ => true
def hiOk : V → Int → Bool
  | .int l, i => decide (i ≤ l)
  | _, _ => true
def wholeV : V → V → V → Bool
  | .int i, lo, hi => loOk lo i && hiOk hi i
  | _, _, _ => false
def Bd (x : V) : Prop := x = .non ∨ ∃ i, x = .int i
theorem wholeV_int {x : V} {l h : Int} : wholeV x (.int l) (.int h) = true → ∃ i, x = .int i ∧ l ≤ i ∧ i ≤ h := by
  intro q
  cases x with
  | int i => simp [wholeV, loOk, hiOk] at q; exact ⟨i, rfl, q⟩
  | _ => cases q
end Jv
namespace Jv
open PySem PySem.Spec PyProof.Rows L2
theorem wholeV_lo0 {i a : Int} {hi : V} (h : i < a) : wholeV (.int i) (.int a) hi = false := by
  show (decide (a ≤ i) && hiOk hi i) = false
  rw [decide_eq_false (by omega), Bool.false_and]
theorem wholeV_lo1 {i a : Int} {hi : V} (h : ¬ i < a) : wholeV (.int i) (.int a) hi = hiOk hi i := by
  show (decide (a ≤ i) && hiOk hi i) = _
  rw [decide_eq_true (by omega), Bool.true_and]
theorem r_dec1 {A B p : Prop} {_ : Decidable p} (h : p) (q : A) : if decide p = true then A else B := r_true (decide_eq_true h) q
theorem r_dec0 {A B p : Prop} {_ : Decidable p} (h : ¬ p) (q : B) : if decide p = true then A else B := r_false (decide_eq_false h) q
end Jv

/-! ### walks over a list or a tuple; comprehensions whose elements are told by a function -/
namespace Jv
open PySem PySem.Spec PyProof.Rows L2
theorem piOr {X : Cx} {tg it : Expr} {w1 w2 : TI} (h : PI X tg it w1) (h' : PI X tg it w2) : PI X tg it (fun σ H R => w1 σ H R ∨ w2 σ H R) := ⟨fun pins s σ H R I q => q.elim (h.run pins s σ H R I) (h'.run pins s σ H R I)⟩
section
variable {K : PySem.W.Frag} {σ : L2.St} {H : Hp} {te : TE} {Q : VK} {xs : List V} {j i : Nat} {x : V}
theorem wipe1 {v : Option V} : wipe ((σ.set j none).set j v) [j] = wipe σ [j] := by
  show ((σ.set j none).set j v).set j none = σ.set j none
  rw [List.set_set, List.set_set]
theorem take_more {α : Type} {l : List α} {i : Nat} {x : α} (h : l[i]? = some x) : l.take (i + 1) = l.take i ++ [x] := by
  rw [List.take_add_one, h]; rfl
theorem lcF {J : It} {G : Hp → Prop} (w : Walk J xs.length G (YAt xs)) (hG : ∀ H', Same H H' → G H') (f : V → V) (few : xs.length ≤ 1000)
    (hs : ∀ v H1, v ∈ xs → Same H H1 → ∀ P : VK, (∀ H2, Same H1 H2 → P (f v) H2) → te ((σ.set j none).set j (some v)) H1 P)
    (hd : ∀ D H1, Same H H1 → H D = none → H1 D = some (.lst (xs.map f)) → Q (.ref D) H1) : ∀ D, H D = none → ∃ W : Nat → Nat → Hp → Prop, (∃ m, W 0 m (upd H D (.lst []))) ∧ ∀ i m H, W i m H →
      (J.stop i H ∧ Q (.ref D) H) ∨ (J.go i H ∧ ∃ Nx : Hp → Prop, (∀ H', Nx H' → ∃ m', m' < m ∧ W (i + 1) m' H') ∧ ∀ x H', J.yld i H x H' → gName j x (wipe σ [j]) H' fun σ2 H2 => wipe σ2 [j] = wipe σ [j] ∧ tYes σ2 H2 fun b H3 =>
        if b = true then te σ2 H3 fun y H4 => ∃ acc, H4 D = some (.lst acc) ∧ acc.length < sizeLine ∧ Nx (upd H4 D (.lst (acc ++ [y]))) else Nx H3) := by
  intro D hD
  refine lc_it w (fun i H1 => Same H H1 ∧ H1 D = some (.lst ((xs.take i).map f))) ⟨same_new hD, upd_same⟩ (fun i H1 _ h => hG H1 h.1) ?_ ?_
  · rintro i x H1 H2 hi ⟨s1, e1⟩ ⟨rfl, hx⟩
    refine ⟨wipe1, ?_⟩
    refine r_yes ?_
    refine r_true (c := true) rfl ?_
    refine hs x _ (List.mem_of_getElem? hx) s1 _ fun H3 s3 => ⟨_, s3 _ _ e1, ?_, ?_, ?_⟩
    · rw [List.length_map, List.length_take]; exact small_lt (by omega)
    · intro b o e; exact kpO (s3 _ _ (s1 b o e)) (ne_of_none e hD)
    · rw [upd_same, take_more hx, List.map_append]; rfl
  · rintro H1 ⟨s1, e1⟩
    rw [List.take_length] at e1
    exact hd D H1 s1 hD e1
/-- over a name that holds a list | a tuple | either -/
theorem lcL {a : Addr} (hv : σ[i]? = some (some (.ref a))) (hx : SqL K H a xs) (f : V → V) (few : xs.length ≤ 1000)
    (hs : ∀ v H1, v ∈ xs → Same H H1 → ∀ P : VK, (∀ H2, Same H1 H2 → P (f v) H2) → te ((σ.set j none).set j (some v)) H1 P)
    (hd : ∀ D H1, Same H H1 → H D = none → H1 D = some (.lst (xs.map f)) → Q (.ref D) H1) : tLc (iList K (tVar i)) (gName j) tYes te [j] σ H Q :=
  ⟨_, hv, a, rfl, ⟨xs, hx⟩, lcF walk_list (fun H' s => s.seq hx) f few hs hd⟩
theorem lcT {a : Addr} (hv : σ[i]? = some (some (.ref a))) (hx : SqT K H a xs) (f : V → V) (few : xs.length ≤ 1000)
    (hs : ∀ v H1, v ∈ xs → Same H H1 → ∀ P : VK, (∀ H2, Same H1 H2 → P (f v) H2) → te ((σ.set j none).set j (some v)) H1 P)
    (hd : ∀ D H1, Same H H1 → H D = none → H1 D = some (.lst (xs.map f)) → Q (.ref D) H1) : tLc (iTup K (tVar i)) (gName j) tYes te [j] σ H Q :=
  ⟨_, hv, a, rfl, ⟨xs, hx⟩, lcF walk_tup (fun H' s => Jv.Same.sqT s hx) f few hs hd⟩
theorem lcS (hv : σ[i]? = some (some x)) (hx : Sq H x xs) (f : V → V) (few : xs.length ≤ 1000)
    (hs : ∀ v H1, v ∈ xs → Same H H1 → ∀ P : VK, (∀ H2, Same H1 H2 → P (f v) H2) → te ((σ.set j none).set j (some v)) H1 P)
    (hd : ∀ D H1, Same H H1 → H D = none → H1 D = some (.lst (xs.map f)) → Q (.ref D) H1) : tLc (fun σ H R => iList K (tVar i) σ H R ∨ iTup K (tVar i) σ H R) (gName j) tYes te [j] σ H Q := by
  obtain ⟨a, rfl, h | h⟩ := hx
  · exact .inl (lcL hv (sqL_at h) f few hs hd)
  · exact .inr (lcT hv (sqT_at h) f few hs hd)
theorem r_all {D : Addr} {f : V → Bool} (h : H D = some (.lst (xs.map fun v => V.bl (f v)))) (q : Q (.bl (xs.all f)) H) : rAll K [.ref D] H Q := by
  refine ⟨D, xs.map f, rfl, sqL_at (by rw [h, List.map_map]; rfl), ?_⟩
  rw [List.all_map]; exact q
theorem Sq.len (h : Sq H x xs) (q : Q (.int xs.length) H) : rLenK K [x] H Q := by
  obtain ⟨a, rfl, h | h⟩ := h
  · exact r_len (.inl (sqL_at h)) q
  · exact r_len (.inr (sqT_at h)) q
theorem Sq.ix (h : Sq H x xs) {k : Int} {v : V} (e : atI xs k = some v) (q : Q v H) : rIx K x (.int k) H Q := by
  obtain ⟨a, rfl, h | h⟩ := h
  · exact .inl (r_ixL (sqL_at h) e q)
  · exact .inr (.inl (r_ixT (sqT_at h) e q))
end
end Jv

/-! ### sorted(t) of a tuple of ints -/
namespace JvS
open PySem PySem.Spec PyProof.Rows L2 SrtO
section
variable {P : Program} {w : World} {A : Around} {E : Value → Shared → Prop} {s : Shared}
/-- the list that collect makes -/
abbrev colH (h : Heap) (vs : List Value) : Heap := (h.push (seqObj "list" #[] 0)).update h.objs.size (Obj.mapSeq (· ++ vs.toArray))
theorem collect_tup {l : Addr} {vs : List Value} {Q : List Value → Shared → Prop} (hl : s.heap.IsTuple l vs.toArray) (h : Q vs { s with heap := colH s.heap vs }) (hsz : vs.length ≤ sizeLine) :
    wpAny (model P w) A (collect (.ref l)) Q E s := by
  obtain ⟨o, ho, hc, n, hd⟩ := id hl
  have ho2 : (s.heap.push (seqObj "list" #[] 0)).get? l = some o := Heap.get?_push_of_some _ ho
  have new : (s.heap.push (seqObj "list" #[] 0)).get? s.heap.objs.size = some (seqObj "list" #[] 0) := Heap.get?_push_size _ rfl
  unfold collect
  refine wpAny_bind (wpAny_runValue (codeAny_builtin entry_proto_collect' (show wpAny _ _ (do again (.builtin "list.__iadd__" ⟨[← newList [], .ref l], []⟩)) _ _ s from
    wpAny_bind (wpAny_newList (wpAny_pure ⟨Code.quiet_builtin _ (by decide +kernel), codeAny_builtin entry_list_iadd' ?_⟩)))))
  show wpAny _ _ (Builtin.List.listExtendWith (.ref s.heap.objs.size) (.ref l) (.ref s.heap.objs.size)) _ _ { s with heap := s.heap.push (seqObj "list" #[] 0) }
  unfold Builtin.List.listExtendWith
  refine wpAny_bind (wpAny_typeOf (T := "tuple") ⟨o, ho2, hc⟩ ?_)
  rw [if_pos (by have e : (Value.type "tuple" == Value.type "tuple") = true := rfl
                 rw [e]; simp)]
  refine wpAny_bind (listItems_at ho2 hd (wpAny_bind (listItems_at (xs := #[]) (n := 0) new rfl ?_)))
  rw [if_neg (by simp)]
  refine wpAny_bind (listUpdate_at (xs := #[]) (n := 0) new rfl (wpAny_pure ?_) (Nat.zero_le _) (by show (#[] ++ vs.toArray).size ≤ sizeLine + 1; simp; omega))
  show wpAny (model P w) A (do
      let o ← load s.heap.objs.size
      match o.data with
      | .seq ys _ => pure ys.toList
      | _ => unsupported "internal:collect") Q E { s with heap := colH s.heap vs }
  refine wpAny_bind (wpAny_load (get?_update_seq new _) (show wpAny _ _ (pure ((#[] : Array Value) ++ vs.toArray).toList) Q E _ from ?_))
  rw [show ((#[] : Array Value) ++ vs.toArray).toList = vs by simp]
  exact wpAny_pure h
theorem sorted_tup {l : Addr} {vs : List Value} {ltv : Value → Value → Bool} {Q : Value → Shared → Prop} (O : Swo ltv) (hl : s.heap.IsTuple l vs.toArray) (hz : vs.length ≤ sizeLine)
    (hS : 2 ≤ vs.length → ∀ (h₁ : Heap) (a : Addr), h₁.get? a = some (seqObj "list" vs.toArray 0) → (∀ b o, s.heap.get? b = some o → b ≠ a ∧ h₁.get? b = some o) → SortableO P w A.in1.in1 { s with heap := h₁ } a vs ltv)
    (h : ∀ out : List Value, Srtd ltv out → Stb ltv out vs → Q (.ref (s.heap.objs.size + 1)) { s with heap := sortedAll s.heap vs out.toArray }) :
    wpAny (model P w) A (call (.builtin "sorted") [.ref l]) Q E s := by
  refine Calls.call_function_entry kind_sorted plain_sorted entry_sorted (args_sorted1 _) ?_
  unfold Builtin.«sorted»
  refine wpAny_bind (m := checkCount "sorted" 1 1 _) (wpAny_pure (wpAny_bind (collect_tup hl (wpAny_bind (wpAny_newList ?_ hz)) hz)))
  have size1 : (colH s.heap vs).objs.size = s.heap.objs.size + 1 := by rw [Heap.size_update, size_push']
  have at2 : ((colH s.heap vs).push (seqObj "list" vs.toArray 0)).get? (s.heap.objs.size + 1) = some (seqObj "list" vs.toArray 0) := by
    rw [← size1]; exact Heap.get?_push_size _ rfl
  have old : ∀ b o, s.heap.get? b = some o → b ≠ s.heap.objs.size + 1 ∧ ((colH s.heap vs).push (seqObj "list" vs.toArray 0)).get? b = some o := fun b o q => by
    have lt := Heap.lt_size q
    refine ⟨Nat.ne_of_lt (Nat.lt_succ_of_lt lt), Heap.get?_push_of_some _ ?_⟩
    rw [Heap.get?_update_ne _ _ _ _ (Nat.ne_of_lt lt)]
    exact Heap.get?_push_of_some _ q
  show wpAny _ _ _ _ _ { s with heap := (colH s.heap vs).push (seqObj "list" vs.toArray 0) }
  rw [size1]
  refine wpAny_bind (wpAny_holding (wpAny_call_entry slot_list_sort ⟨_, at2, rfl⟩ entry_list_sort (list_sort_ord O at2 hz (fun h2 => hS h2 _ _ at2 old) fun out a b => ⟨_, rfl, wpAny_pure ⟨_, rfl, h out a b⟩⟩) (args_list_sort _)))
end
end JvS
namespace Jv
open PySem PySem.Spec PyProof.Rows L2
section
variable {X : Cx}
/-- sorted(x), x a list or a tuple of ints -/
def rSortIT (K : PySem.W.Frag) : List V → Hp → VK → Prop := fun vs H Q => ∃ (a : Addr) (ns : List Int), vs = [V.ref a] ∧ (SqL K H a (ns.map V.int) ∨ SqT K H a (ns.map V.int)) ∧
  ∀ (ns' : List Int) (p : Addr), ns'.Perm ns → ns'.Pairwise (· ≤ ·) → H p = none → Q (.ref p) (upd H p (.lst (ns'.map V.int)))
theorem cr_sortIT : CallR X (.builtin "sorted") (rSortIT X.K) := by
  intro pins s σ H vs us Q I r h
  obtain ⟨a, ns, rfl, hs | hs, q⟩ := h
  · exact cr_sortedI pins s σ H _ us Q I r ⟨a, ns, rfl, hs, q⟩
  · obtain ⟨its, rv, ht, hz⟩ := I.tuple hs
    rw [Vals.ref1 r]
    have hi := rv.ints
    rw [List.length_map] at hz
    have hz2 : its.length ≤ sizeLine := by rw [← rv.length, List.length_map]; exact hz
    refine JvS.sorted_tup SrtO.swo_int (show s.heap.IsTuple a its.toArray from ht) hz2 (fun h2 _ _ _ _ => SrtO.ints_sortable hi h2) fun out h1 h2 => ?_
    obtain ⟨k1, k2, k3⟩ := SrtO.ints_out hi h1 h2
    obtain ⟨ep, he⟩ := PyProof.Rows.sortedAll_at s.heap its out.toArray
    refine ⟨.ref _, upd H (s.heap.objs.size + 1) (.lst ((out.map SrtO.iv).map V.int)), I.laid (t' := s.toks) (fun _ _ => PyProof.Rows.sortedAll_old) (Nat.le_succ _) ⟨?_, out, ep, vals_of_ints k1, he⟩, rfl, q _ _ k2 k3 (I.hok.fresh (Nat.le_succ _))⟩
    rw [List.length_map, k2.length_eq]; exact hz
end
/-! ### data of ints -/
theorem canAll_ints : ∀ ns : List Int, PyData.canLayAll0 (ns.map PyData.int) = true
  | [] => by simp [PyData.canLayAll0]
  | a :: r => by simp [PyData.canLayAll0, PyData.canLay0, canAll_ints r]
theorem depAll_ints : ∀ ns : List Int, PyData.depthAll (ns.map PyData.int) = 0
  | [] => by simp [PyData.depthAll]
  | a :: r => by simp [PyData.depthAll, PyData.depth, depAll_ints r]
theorem shapedL (ns : List Int) : SeqAt.shaped (.list (ns.map .int)) = true := by simp [SeqAt.shaped, PyData.canLay0, PyData.depth, canAll_ints, depAll_ints]
theorem shapedT (ns : List Int) : SeqAt.shaped (.tuple (ns.map .int)) = true := by simp [SeqAt.shaped, PyData.canLay0, PyData.depth, canAll_ints, depAll_ints]
theorem eqvAll_ints : ∀ a b : List Int, PyData.eqvAll (a.map .int) (b.map .int) = decide (a = b)
  | [], [] => by simp [PyData.eqvAll]
  | [], _ :: _ => by simp [PyData.eqvAll]
  | _ :: _, [] => by simp [PyData.eqvAll]
  | x :: a, y :: b => by
    simp only [List.map_cons, PyData.eqvAll, PyData.eqv, eqvAll_ints a b]
    by_cases h : x = y <;> by_cases g : a = b <;> simp [h, g]
theorem eqvL (a b : List Int) : PyData.eqv (.list (a.map .int)) (.list (b.map .int)) = decide (a = b) := by rw [PyData.eqv, eqvAll_ints]
theorem eqvT (a b : List Int) : PyData.eqv (.tuple (a.map .int)) (.tuple (b.map .int)) = decide (a = b) := by rw [PyData.eqv, eqvAll_ints]
section
variable {K : PySem.W.Frag} {H : Hp}
theorem dpAll_ints : ∀ ns : List Int, DpAll K H (ns.map V.int) (ns.map PyData.int)
  | [] => .nil
  | a :: r => .cons (.int a) (dpAll_ints r)
theorem dpL {a : Addr} {ns : List Int} (h : SqL K H a (ns.map V.int)) : Dp K H (.ref a) (.list (ns.map .int)) := .lst h (dpAll_ints ns)
theorem dpT {a : Addr} {ns : List Int} (h : SqT K H a (ns.map V.int)) : Dp K H (.ref a) (.tuple (ns.map .int)) := .tup h (dpAll_ints ns)
end
end Jv

/-! ### kinds, lots, orders -/
namespace Jv
open PySem PySem.Spec PyProof.Rows L2
def intsV : List V → Option (List Int)
  | [] => some []
  | .int i :: r => (intsV r).map (i :: ·)
  | _ :: _ => none
theorem iv_map : ∀ ns : List Int, intsV (ns.map V.int) = some ns
  | [] => rfl
  | a :: r => by simp [intsV, iv_map r]
theorem iv_of : ∀ {xs : List V} {ns : List Int}, intsV xs = some ns → xs = ns.map V.int
  | [], ns, h => by cases h; rfl
  | .int i :: r, ns, h => by
    cases e : intsV r with
    | none => simp [intsV, e] at h
    | some m => simp [intsV, e] at h; subst h; rw [iv_of e]; rfl
  | .non :: _, _, h => by cases h
  | .bl _ :: _, _, h => by cases h
  | .str _ :: _, _, h => by cases h
  | .byt _ :: _, _, h => by cases h
  | .flt _ :: _, _, h => by cases h
  | .ref _ :: _, _, h => by cases h
  | .ty _ :: _, _, h => by cases h
/-- what a sequence's items must be for the program to look at them -/
def ThS (H : Hp) (x : V) : Prop := Th H x ∧ ∀ xs, Sq H x xs → xs.length ≤ 60 ∧ ∀ v ∈ xs, Th H v
theorem ThS.same {H H' : Hp} {x : V} (h : ThS H x) (s : Same H H') : ThS H' x := ⟨h.1.same s, fun xs q => by
  have e := q.of
  rw [sqOf_same h.1 s] at e
  obtain ⟨a, b⟩ := h.2 xs (sq_some e)
  exact ⟨a, fun v m => (b v m).same s⟩⟩
def kindsB (H : Hp) (x : V) (k : Int) : Bool := match sqOf H x with
  | some xs => xs.all fun v => wholeV v (.int 0) (.int (k - 1))
  | none => false
def inK (k : Int) (ns : List Int) : Prop := ∀ n ∈ ns, 0 ≤ n ∧ n ≤ k - 1
theorem whole_all {k : Int} : ∀ {xs : List V}, (xs.all fun v => wholeV v (.int 0) (.int (k - 1))) = true → ∃ ns, xs = ns.map V.int ∧ inK k ns
  | [], _ => ⟨[], rfl, fun _ h => by cases h⟩
  | x :: r, h => by
    rw [List.all_cons, Bool.and_eq_true] at h
    obtain ⟨i, rfl, h1, h2⟩ := wholeV_int h.1
    obtain ⟨ns, rfl, h3⟩ := whole_all h.2
    refine ⟨i :: ns, rfl, fun n hn => ?_⟩
    rcases List.mem_cons.mp hn with rfl | hn
    · exact ⟨h1, h2⟩
    · exact h3 n hn
theorem all_whole {k : Int} {ns : List Int} (h : inK k ns) : ((ns.map V.int).all fun v => wholeV v (.int 0) (.int (k - 1))) = true := by
  rw [List.all_map, List.all_eq_true]
  intro n hn
  obtain ⟨a, b⟩ := h n hn
  show (decide (0 ≤ n) && decide (n ≤ k - 1)) = true
  rw [decide_eq_true a, decide_eq_true b]; rfl
instance {k : Int} {ns : List Int} : Decidable (inK k ns) := inferInstanceAs (Decidable (∀ n ∈ ns, _))
theorem whole_all_iff {k : Int} {ns : List Int} : ((ns.map V.int).all fun v => wholeV v (.int 0) (.int (k - 1))) = decide (inK k ns) := by
  by_cases h : inK k ns
  · rw [all_whole h, decide_eq_true h]
  · rw [decide_eq_false h]
    cases e : (ns.map V.int).all fun v => wholeV v (.int 0) (.int (k - 1)) with
    | false => rfl
    | true =>
      obtain ⟨ms, e2, h2⟩ := whole_all e
      have e3 : ns = ms := by have q := iv_map ns; rw [e2, iv_map] at q; cases q; rfl
      exact absurd (e3 ▸ h2) h
theorem sorted_ext : ∀ {a b : List Int}, a.Pairwise (· < ·) → b.Pairwise (· < ·) → (∀ n, n ∈ a ↔ n ∈ b) → a = b
  | [], [], _, _, _ => rfl
  | [], y :: _, _, _, h => absurd ((h y).mpr List.mem_cons_self) (by simp)
  | x :: _, [], _, _, h => absurd ((h x).mp List.mem_cons_self) (by simp)
  | x :: a, y :: b, ha, hb, h => by
    have ha' := List.pairwise_cons.mp ha
    have hb' := List.pairwise_cons.mp hb
    have e : x = y := by
      rcases List.mem_cons.mp ((h x).mp List.mem_cons_self) with e | m1
      · exact e
      · rcases List.mem_cons.mp ((h y).mpr List.mem_cons_self) with e | m2
        · exact e.symm
        · have q1 := hb'.1 x m1
          have q2 := ha'.1 y m2
          omega
    subst e
    congr 1
    refine sorted_ext ha'.2 hb'.2 fun n => ⟨fun m => ?_, fun m => ?_⟩
    · rcases List.mem_cons.mp ((h n).mp (List.mem_cons_of_mem _ m)) with e | q
      · subst e; exact absurd (ha'.1 n m) (by omega)
      · exact q
    · rcases List.mem_cons.mp ((h n).mpr (List.mem_cons_of_mem _ m)) with e | q
      · subst e; exact absurd (hb'.1 n m) (by omega)
      · exact q
def lotP (k : Int) (ns : List Int) : Prop := inK k ns ∧ 0 < ns.length ∧ ns.Pairwise (· < ·)
instance {k : Int} {ns : List Int} : Decidable (lotP k ns) := inferInstanceAs (Decidable (_ ∧ _))
def lotV (H : Hp) (x : V) (k : Int) : Bool := match sqOf H x with
  | some xs => match intsV xs with
    | some ns => decide (lotP k ns)
    | none => false
  | none => false
theorem set_eq {ns ms : List Int} (h1 : ms.Pairwise (· < ·)) (h2 : ∀ k : Int, k ∈ ms ↔ decide (k ∈ ns) = true) : (ns = ms) ↔ ns.Pairwise (· < ·) :=
  ⟨fun e => e ▸ h1, fun h => sorted_ext h h1 fun n => by rw [h2 n, decide_eq_true_iff]⟩
def orderP (k : Int) (ns : List Int) : Prop := inK k ns ∧ ns.Perm ((List.range k.toNat).map fun (i : Nat) => (i : Int))
instance {k : Int} {ns : List Int} : Decidable (orderP k ns) := inferInstanceAs (Decidable (_ ∧ _))
theorem range_sorted (n : Nat) : ((List.range n).map fun (i : Nat) => (i : Int)).Pairwise (· ≤ ·) := by
  rw [List.pairwise_map]
  exact List.pairwise_lt_range.imp fun h => by omega
theorem sorted_perm {a b : List Int} (ha : a.Pairwise (· ≤ ·)) (hb : b.Pairwise (· ≤ ·)) (h : a.Perm b) : a = b :=
  List.Perm.eq_of_pairwise (fun x y _ _ h1 h2 => by omega) ha hb h
def orderV (H : Hp) (x : V) (k : Int) : Bool := match sqOf H x with
  | some xs => match intsV xs with
    | some ns => decide (orderP k ns)
    | none => false
  | none => false
end Jv
namespace Jv
open PySem PySem.Spec PyProof.Rows L2
section
variable {H : Hp} {x : V} {k : Int} {ns : List Int}
theorem lotV_of (e : sqOf H x = some (ns.map V.int)) : lotV H x k = decide (lotP k ns) := by
  unfold lotV; rw [e]; dsimp only; rw [iv_map]
theorem orderV_of (e : sqOf H x = some (ns.map V.int)) : orderV H x k = decide (orderP k ns) := by
  unfold orderV; rw [e]; dsimp only; rw [iv_map]
theorem kindsB_of (e : sqOf H x = some (ns.map V.int)) : kindsB H x k = decide (inK k ns) := by
  unfold kindsB; rw [e]; exact whole_all_iff
theorem kindsB_true (h : kindsB H x k = true) : ∃ ns, sqOf H x = some (ns.map V.int) ∧ inK k ns := by
  unfold kindsB at h
  cases e : sqOf H x with
  | none => rw [e] at h; cases h
  | some xs =>
    rw [e] at h
    obtain ⟨ns, rfl, q⟩ := whole_all h
    exact ⟨ns, rfl, q⟩
theorem lotV_false (h : kindsB H x k = false) : lotV H x k = false := by
  cases e : sqOf H x with
  | none => unfold lotV; rw [e]
  | some xs =>
    cases e2 : intsV xs with
    | none => unfold lotV; rw [e]; dsimp only; rw [e2]
    | some ns =>
      obtain rfl := iv_of e2
      rw [lotV_of e, decide_eq_false]
      rintro ⟨h1, _⟩
      rw [kindsB_of e, decide_eq_true h1] at h; cases h
theorem orderV_false (h : kindsB H x k = false) : orderV H x k = false := by
  cases e : sqOf H x with
  | none => unfold orderV; rw [e]
  | some xs =>
    cases e2 : intsV xs with
    | none => unfold orderV; rw [e]; dsimp only; rw [e2]
    | some ns =>
      obtain rfl := iv_of e2
      rw [orderV_of e, decide_eq_false]
      rintro ⟨h1, _⟩
      rw [kindsB_of e, decide_eq_true h1] at h; cases h
theorem lotV_true (h : lotV H x k = true) : ∃ ns, sqOf H x = some (ns.map V.int) ∧ lotP k ns := by
  cases e : sqOf H x with
  | none => unfold lotV at h; rw [e] at h; cases h
  | some xs =>
    cases e2 : intsV xs with
    | none => unfold lotV at h; rw [e] at h; dsimp only at h; rw [e2] at h; cases h
    | some ns =>
      obtain rfl := iv_of e2
      rw [lotV_of e] at h
      exact ⟨ns, rfl, of_decide_eq_true h⟩
theorem Sq.or {K : PySem.W.Frag} {a : Addr} {xs : List V} (h : H a = some (.lst xs) ∨ H a = some (.tup xs)) : SqL K H a xs ∨ SqT K H a xs := h.elim (fun h => .inl (sqL_at h)) fun h => .inr (sqT_at h)
end
end Jv
namespace Jv
open PySem PySem.Spec PyProof.Rows L2
theorem rgV0 {k : Int} : rgV 0 k = ((List.range k.toNat).map fun (i : Nat) => (i : Int)).map V.int := by
  unfold rgV
  rw [List.map_map, Int.sub_zero]
  refine List.map_congr_left fun i _ => ?_
  show V.int (0 + (i : Int)) = V.int i
  rw [Int.zero_add]
end Jv

/-! ### pairs of two ranges; data as lists of pairs -/
namespace Jv
open PySem PySem.Spec PyProof.Rows L2
/-- references to tuples of two ints that stand -/
def Tups (H : Hp) (refs : List V) (prs : List (Int × Int)) : Prop := Paired (fun v (pr : Int × Int) => ∃ t, v = V.ref t ∧ H t = some (.tup [.int pr.1, .int pr.2])) refs prs
theorem Paired.mono' {α β : Type} {F G : α → β → Prop} (h : ∀ a b, F a b → G a b) : ∀ {xs : List α} {ys : List β}, Paired F xs ys → Paired G xs ys
  | _, _, .nil => .nil
  | _, _, .cons r t => .cons (h _ _ r) (Paired.mono' h t)
theorem Paired.snoc {α β : Type} {F : α → β → Prop} {a : α} {b : β} (h : F a b) : ∀ {xs : List α} {ys : List β}, Paired F xs ys → Paired F (xs ++ [a]) (ys ++ [b])
  | _, _, .nil => .cons h .nil
  | _, _, .cons r t => .cons r (Paired.snoc h t)
theorem Tups.same {H H' : Hp} {refs : List V} {prs : List (Int × Int)} (h : Tups H refs prs) (s : Same H H') : Tups H' refs prs := Paired.mono' (fun _ _ ⟨t, e, q⟩ => ⟨t, e, s _ _ q⟩) h
theorem Tups.upd {H : Hp} {D : Addr} {o : HO} {refs : List V} {prs : List (Int × Int)} (h : Tups H refs prs) (n : ∀ xs, H D ≠ some (.tup xs)) : Tups (L2.upd H D o) refs prs :=
  Paired.mono' (fun _ _ ⟨t, e, q⟩ => ⟨t, e, by rw [upd_ne]; exact q; intro z; rw [z] at q; exact n _ q⟩) h
def pairsTo (q i j : Nat) : List (Int × Int) := ((List.range i).flatMap fun (e : Nat) => (List.range q).map fun (w : Nat) => ((e : Int), (w : Int))) ++ (List.range j).map fun (w : Nat) => ((i : Int), (w : Int))
def prs (p q : Nat) : List (Int × Int) := pairsTo q p 0
theorem pairsTo_next (q i : Nat) : pairsTo q i q = pairsTo q (i + 1) 0 := by
  unfold pairsTo
  rw [List.range_succ, List.flatMap_append]
  simp
theorem pairsTo_more (q i j : Nat) : pairsTo q i (j + 1) = pairsTo q i j ++ [((i : Int), (j : Int))] := by
  unfold pairsTo
  rw [List.range_succ (n := j), List.map_append, List.append_assoc]; rfl
theorem pairsTo_len (q i j : Nat) : (pairsTo q i j).length = i * q + j := by
  unfold pairsTo
  rw [List.length_append, List.length_map, List.length_range]
  congr 1
  induction i with
  | zero => simp
  | succ i ih => rw [List.range_succ, List.flatMap_append, List.length_append, ih]; simp [Nat.succ_mul]
section
variable {σ : L2.St} {H : Hp} {ta tb : TA} {te : TE} {Q : VK} {a b p q : Nat}
theorem lc2R (hp : p ≤ 20) (hq : q ≤ 20) (w1 : ∀ x, wipe ((wipe σ [a, b]).set a (some x)) [a, b] = wipe σ [a, b])
    (w2 : ∀ x y, wipe ((wipe ((wipe σ [a, b]).set a (some x)) [b]).set b (some y)) [b] = wipe ((wipe σ [a, b]).set a (some x)) [b])
    (hta : ∀ P : List V → Hp → Prop, P [.int p] H → ta σ H P)
    (htb : ∀ (i : Nat) H1, i < p → Same H H1 → ∀ P : List V → Hp → Prop, P [.int q] H1 → tb ((wipe σ [a, b]).set a (some (.int i))) H1 P)
    (hte : ∀ (i j : Nat) H1, i < p → j < q → Same H H1 → ∀ P : VK, (∀ t H2, Same H1 H2 → H1 t = none → H2 t = some (.tup [.int i, .int j]) → P (.ref t) H2) → te ((wipe ((wipe σ [a, b]).set a (some (.int i))) [b]).set b (some (.int j))) H1 P)
    (hd : ∀ D refs H1, Same H H1 → H D = none → H1 D = some (.lst refs) → Tups H1 refs (prs p q) → Q (.ref D) H1) :
    tLc2 (iRng1 ta) (gName a) tYes (iRng1 tb) (gName b) tYes te [a, b] [b] σ H Q := by
  refine hta _ ⟨p, rfl, by omega, by omega, fun D hD => ?_⟩
  have key : ∀ (i j : Nat) H1, (∃ refs, Same H H1 ∧ H1 D = some (.lst refs) ∧ Tups H1 refs (pairsTo q i j)) → ∃ refs, Same H H1 ∧ H1 D = some (.lst refs) ∧ Tups H1 refs (pairsTo q i j) := fun _ _ _ h => h
  refine ⟨fun i m H1 => m = p - i ∧ i ≤ p ∧ ∃ refs, Same H H1 ∧ H1 D = some (.lst refs) ∧ Tups H1 refs (pairsTo q i 0), ⟨p, by omega, by omega, [], same_new hD, upd_same, .nil⟩, ?_⟩
  rintro i m H1 ⟨rfl, hi, refs, s1, e1, t1⟩
  by_cases lt : i < p
  · refine .inr ⟨by show i < (p : Int).toNat; omega, fun H' => ∃ refs, Same H H' ∧ H' D = some (.lst refs) ∧ Tups H' refs (pairsTo q (i + 1) 0), fun H' h => ⟨p - (i + 1), by omega, rfl, lt, h⟩, ?_⟩
    rintro x H2 ⟨rfl, rfl⟩
    rw [Int.zero_add]
    refine ⟨w1 _, r_yes (r_true (c := true) rfl ?_)⟩
    refine htb i _ lt s1 _ ⟨q, rfl, by omega, by omega, ?_⟩
    refine ⟨fun j k H1 => k = q - j ∧ j ≤ q ∧ ∃ refs, Same H H1 ∧ H1 D = some (.lst refs) ∧ Tups H1 refs (pairsTo q i j), ⟨q, by omega, by omega, refs, s1, e1, t1⟩, ?_⟩
    rintro j k H3 ⟨rfl, hj, refs, s3, e3, t3⟩
    by_cases lt2 : j < q
    · refine .inr ⟨by show j < (q : Int).toNat; omega, fun H' => ∃ refs, Same H H' ∧ H' D = some (.lst refs) ∧ Tups H' refs (pairsTo q i (j + 1)), fun H' h => ⟨q - (j + 1), by omega, rfl, lt2, h⟩, ?_⟩
      rintro y H4 ⟨rfl, rfl⟩
      rw [Int.zero_add]
      refine ⟨w2 _ _, r_yes (r_true (c := true) rfl ?_)⟩
      refine hte i j _ lt lt2 s3 _ fun t H5 s5 ht h5 => ⟨refs, s5 _ _ e3, ?_, refs ++ [.ref t], ?_, upd_same, ?_⟩
      · have h1 := Paired.length t3
        have h2 := pairsTo_len q i j
        have h3 : i * q ≤ 20 * 20 := Nat.mul_le_mul (by omega) (by omega)
        exact small_lt (by omega)
      · intro c o hc
        exact kpO (s5 _ _ (s3 _ _ hc)) (ne_of_none hc hD)
      · rw [pairsTo_more]
        refine Tups.upd (Paired.snoc ⟨t, rfl, h5⟩ (t3.same s5)) fun xs z => ?_
        have := s5 _ _ e3
        rw [this] at z; cases z
    · have ej : j = q := by omega
      subst ej
      refine .inl ⟨by show (j : Int).toNat ≤ j; omega, refs, s3, e3, ?_⟩
      rw [← pairsTo_next]; exact t3
  · have ei : i = p := by omega
    subst ei
    exact .inl ⟨by show (i : Int).toNat ≤ i; omega, hd D refs _ s1 hD e1 t1⟩
end
end Jv
namespace Jv
open PySem PySem.Spec PyProof.Rows L2
theorem log_small {m : Int} (h0 : 0 < m) (h1 : m < 2 ^ 200) : m.natAbs.log2 < 9000 := Nat.lt_trans (PySem.Flt.log2_lt_of (n := m.natAbs) (k := 200) (by decide) (by omega)) (by decide)
theorem cdivS {i m : Int} (h0 : 0 < m) (h1 : m < 2 ^ 200) : CDivW i m := ⟨h0, log_small h0 h1⟩
end Jv
namespace Jv
open PySem PySem.Spec PyProof.Rows L2
section
variable {K : PySem.W.Frag} {σ : L2.St} {H : Hp} {Q : VK} {to : TE} {t : TA} {y : V}
theorem r_bm {T : String} {r : V → List V → Hp → VK → Prop} (h : to σ H fun x H1 => tyV K T x H1 ∧ t σ H1 fun xs H2 => r x xs H2 Q) : tBM K T r to t σ H Q := h
theorem r_tyL {p : Addr} {xs : List V} {P : Prop} (h : H p = some (.lst xs)) (q : P) : tyV K "list" (.ref p) H ∧ P := ⟨.inl ⟨rfl, xs, sqL_at h⟩, q⟩
theorem r_app {l : Addr} {xs : List V} (h : H l = some (.lst xs)) (hz : xs.length < 1000) (q : Q .non (upd H l (.lst (xs ++ [y])))) : rAppend (.ref l) [y] H Q := ⟨l, xs, y, rfl, rfl, h, small_lt hz, q⟩
theorem seqIx {k : Int} {n : Nat} (h0 : 0 ≤ k) (h1 : k.toNat < n) : seqIndex? k n = some k.toNat := by
  unfold seqIndex?
  simp; omega
theorem r_popAt {l : Addr} {xs : List V} {k : Int} (h : H l = some (.lst xs)) (h0 : 0 ≤ k) (h1 : k < 1000) (e : xs[k.toNat]? = some y) (q : Q y (upd H l (.lst (xs.eraseIdx k.toNat)))) : rPopAt (.ref l) [.int k] H Q :=
  ⟨l, xs, k, k.toNat, y, rfl, rfl, h, by omega, by omega, seqIx h0 (List.getElem?_eq_some_iff.mp e).1, e, q⟩
theorem erase_perm : ∀ {l : List Int} {k : Nat} {z : Int}, l[k]? = some z → (z :: l.eraseIdx k).Perm l
  | [], k, z, h => by simp at h
  | a :: r, 0, z, h => by
    have e : a = z := Option.some.inj h
    subst e; exact .refl _
  | a :: r, k + 1, z, h => (List.Perm.swap a z _).trans (List.Perm.cons a (erase_perm (l := r) (k := k) h))
theorem pop_perm {ns ms : List Int} {k : Nat} {z : Int} (e : ms[k]? = some z) : ((ns ++ [z]) ++ ms.eraseIdx k).Perm (ns ++ ms) := by
  rw [List.append_assoc]
  exact List.Perm.append_left ns (erase_perm e)
def rgI (n : Nat) : List Int := (List.range n).map fun (i : Nat) => (i : Int)
end
theorem rises_no {ns : List Int} {k b z : Int} {i : Nat} (hz : ns[i]? = some z) (hb : b = -1 ∨ b ∈ ns.take i) (h : ¬ (b < z ∧ z < k)) : ¬ lotP k ns := fun ⟨h1, _, h3⟩ => by
  obtain ⟨a0, a1⟩ := h1 z (List.mem_of_getElem? hz)
  refine h ⟨?_, by omega⟩
  rcases hb with rfl | hb
  · omega
  · obtain ⟨hi, rfl⟩ := List.getElem?_eq_some_iff.mp hz
    rw [← List.take_append_drop i ns, List.pairwise_append] at h3
    exact h3.2.2 b hb _ (by rw [List.mem_iff_getElem]; exact ⟨0, by rw [List.length_drop]; omega, by simp⟩)
end Jv
namespace Jv
open PySem PySem.Spec PyProof.Rows L2
theorem erase_map : ∀ (l : List Int) (j : Nat), (l.map V.int).eraseIdx j = (l.eraseIdx j).map V.int
  | [], _ => rfl
  | _ :: _, 0 => rfl
  | a :: r, j + 1 => congrArg (V.int a :: ·) (erase_map r j)
end Jv

/-! ### keyword calls, dict displays, things that are refused -/
namespace Jv
open PySem PySem.Spec PyProof.Rows L2
section
variable {K : PySem.W.Frag} {σ : L2.St} {H : Hp} {t tk : TA} {te tv : TE} {Q : VK} {A B : Prop}
theorem r_callN {n m : Nat} {sp : Sp} {gV : List V → List V → List V} {E : XK} (h : t σ H fun vs H1 => tk σ H1 fun zs H2 => vs.length = n ∧ zs.length = m ∧ sp (gV vs zs) H2 Q E) : tCallN n m sp gV E t tk σ H Q := h
theorem r_disp1 {k v : Int} (q : ∀ p, H p = none → Q (.ref p) (upd H p (.dK [(.inl k, .int v)]))) : tDisp [(tC (.int k), tC (.int v))] σ H Q := fun p hp =>
  ⟨upd_same, [(.inl k, .int v)], rfl, Nat.le_of_ble_eq_true rfl, by rw [upd_upd]; exact q p hp⟩
theorem r_disp2 {k v k' v' : Int} (ne : k ≠ k') (q : ∀ p, H p = none → Q (.ref p) (upd H p (.dK [(.inl k, .int v), (.inl k', .int v')]))) : tDisp [(tC (.int k), tC (.int v)), (tC (.int k'), tC (.int v'))] σ H Q := fun p hp =>
  ⟨upd_same, [(.inl k, .int v), (.inl k', .int v')], rfl, Nat.le_of_ble_eq_true rfl, by
    rw [upd_upd]
    have e : mergeK ([] : List (Key × V)) [(.inl k, .int v), (.inl k', .int v')] = [(.inl k, .int v), (.inl k', .int v')] := by
      simp [mergeK, putK, ne]
    rw [e]; exact q p hp⟩
theorem r_same {b : Bool} (q : B) : if (!decide (b = b)) = true then A else B := r_false (by rw [decide_eq_true rfl]; rfl) q
theorem r_same' {b c : Bool} (e : b = c) (q : B) : if (!decide (b = c)) = true then A else B := by subst e; exact r_same q
/-- the same, in a condition that is not yet an if -/
theorem r_dsame {P : Bool → Prop} {b : Bool} (q : P true) : P (decide (b = b)) := by rw [decide_eq_true rfl]; exact q
theorem r_and_k {te ta : TE} {c : Bool} (h : te σ H fun x H1 => ∃ c, x = .bl c ∧ if c = true then ta σ H1 Q else Q (.bl false) H1) : tAndV te ta σ H Q := h
end
/-- a thing that is neither a lot nor an order nor sides nor a couple -/
def BadTh (H : Hp) (x : V) : Prop := ThS H x ∧ ∀ xs, sqOf H x = some xs → intsV xs = none
theorem BadTh.same {H H' : Hp} {x : V} (h : BadTh H x) (s : Same H H') : BadTh H' x := ⟨h.1.same s, fun xs e => h.2 xs (by rw [← sqOf_same h.1.1 s]; exact e)⟩
theorem BadTh.lot {H : Hp} {x : V} {k : Int} (h : BadTh H x) : lotV H x k = false := by
  unfold lotV
  cases e : sqOf H x with
  | none => rfl
  | some xs => dsimp only; rw [h.2 xs e]
theorem BadTh.order {H : Hp} {x : V} {k : Int} (h : BadTh H x) : orderV H x k = false := by
  unfold orderV
  cases e : sqOf H x with
  | none => rfl
  | some xs => dsimp only; rw [h.2 xs e]
section
variable {H : Hp}
theorem bad_sc {x : V} (h : Th H x) (n : sqOf H x = none) : BadTh H x := ⟨⟨h, fun xs q => by rw [q.of] at n; cases n⟩, fun xs e => by rw [n] at e; cases e⟩
theorem bad_dK {a : Addr} {kvs : List (Key × V)} (h : H a = some (.dK kvs)) : BadTh H (.ref a) := bad_sc (.inr (.inr ⟨_, h⟩)) (by simp [sqOf, h])
theorem bad_sq {a : Addr} {xs : List V} (h : H a = some (.lst xs) ∨ H a = some (.tup xs)) (few : xs.length ≤ 60) (th : ∀ v ∈ xs, Th H v) (n : intsV xs = none) : BadTh H (.ref a) := by
  have sq : Sq H (.ref a) xs := ⟨a, rfl, h⟩
  refine ⟨⟨sq.th, fun ys q => ?_⟩, fun ys e => ?_⟩
  · have e := q.of; rw [sq.of] at e; cases e; exact ⟨few, th⟩
  · rw [sq.of] at e; cases e; exact n
theorem thS_ints {a : Addr} {ns : List Int} (h : H a = some (.lst (ns.map V.int)) ∨ H a = some (.tup (ns.map V.int))) (few : ns.length ≤ 60) : ThS H (.ref a) := by
  have sq : Sq H (.ref a) (ns.map V.int) := ⟨a, rfl, h⟩
  refine ⟨sq.th, fun ys q => ?_⟩
  have e := q.of; rw [sq.of] at e; cases e
  refine ⟨by rw [List.length_map]; exact few, fun v hv => ?_⟩
  obtain ⟨i, _, rfl⟩ := List.mem_map.mp hv
  trivial
theorem wholeV_not {x lo hi : V} (h : isI x = false) : wholeV x lo hi = false := by
  cases x with
  | int i => cases h
  | _ => rfl
theorem shaped_bad {d : PyData} (h : PyData.canLay0 d = true) (h2 : PyData.depth d = 0) : SeqAt.shaped (.list [.str "bad", d]) = true := by
  simp [SeqAt.shaped, PyData.canLay0, PyData.depth, PyData.canLayAll0, PyData.depthAll, h, h2]; decide +kernel
end
end Jv

/-! ### data: none, truths, whole numbers, texts, lists that stand, tuples that stand or are the program's own -/
namespace Jv
open PySem PySem.Spec PyProof.Rows L2
mutual
inductive Dv (K : PySem.W.Frag) (H : Hp) : V → PyData → Prop
  | non : Dv K H .non .none
  | bl (b : Bool) : Dv K H (.bl b) (.bool b)
  | int (i : Int) : Dv K H (.int i) (.int i)
  | str (x : Str) : Dv K H (.str x) (.str x)
  | lst {a : Addr} {xs : List V} {ds : List PyData} : H a = some (.lst xs) → DvAll K H xs ds → Dv K H (.ref a) (.list ds)
  | tup {a : Addr} {xs : List V} {ds : List PyData} : SqT K H a xs → DvAll K H xs ds → Dv K H (.ref a) (.tuple ds)
inductive DvAll (K : PySem.W.Frag) (H : Hp) : List V → List PyData → Prop
  | nil : DvAll K H [] []
  | cons {v : V} {vs : List V} {d : PyData} {ds : List PyData} : Dv K H v d → DvAll K H vs ds → DvAll K H (v :: vs) (d :: ds)
end
mutual
theorem Dv.same {K : PySem.W.Frag} {H H' : Hp} (s : Same H H') : ∀ {v : V} {d : PyData}, Dv K H v d → Dv K H' v d
  | _, _, .non => .non
  | _, _, .bl b => .bl b
  | _, _, .int i => .int i
  | _, _, .str x => .str x
  | _, _, .lst h q => .lst (s _ _ h) (DvAll.same s q)
  | _, _, .tup h q => .tup (Jv.Same.sqT s h) (DvAll.same s q)
theorem DvAll.same {K : PySem.W.Frag} {H H' : Hp} (s : Same H H') : ∀ {vs : List V} {ds : List PyData}, DvAll K H vs ds → DvAll K H' vs ds
  | _, _, .nil => .nil
  | _, _, .cons a b => .cons (Dv.same s a) (DvAll.same s b)
end
mutual
theorem Dv.dp {K : PySem.W.Frag} {H : Hp} : ∀ {v : V} {d : PyData}, Dv K H v d → Dp K H v d
  | _, _, .non => .non
  | _, _, .bl b => .bl b
  | _, _, .int i => .int i
  | _, _, .str x => .str x
  | _, _, .lst h q => .lst (sqL_at h) (DvAll.dp q)
  | _, _, .tup h q => .tup h (DvAll.dp q)
theorem DvAll.dp {K : PySem.W.Frag} {H : Hp} : ∀ {vs : List V} {ds : List PyData}, DvAll K H vs ds → DpAll K H vs ds
  | _, _, .nil => .nil
  | _, _, .cons a b => .cons (Dv.dp a) (DvAll.dp b)
end
section
variable {K : PySem.W.Frag} {H : Hp} {v : V} {d : PyData} {vs : List V} {ds : List PyData}
theorem DvAll.len : ∀ {vs : List V} {ds : List PyData}, DvAll K H vs ds → vs.length = ds.length
  | _, _, .nil => rfl
  | _, _, .cons _ b => congrArg (· + 1) (DvAll.len b)
theorem DvAll.snoc (h : Dv K H v d) : ∀ {vs : List V} {ds : List PyData}, DvAll K H vs ds → DvAll K H (vs ++ [v]) (ds ++ [d])
  | _, _, .nil => .cons h .nil
  | _, _, .cons a b => .cons a (DvAll.snoc h b)
theorem DvAll.at : ∀ {vs : List V} {ds : List PyData} {i : Nat} {v : V}, DvAll K H vs ds → vs[i]? = some v → ∃ d, ds[i]? = some d ∧ Dv K H v d
  | _, _, _, _, .nil, e => by simp at e
  | _, _, 0, _, .cons a _, e => by
    simp at e; subst e; exact ⟨_, rfl, a⟩
  | _, _, i + 1, _, .cons _ b, e => by
    simp at e ⊢; exact DvAll.at b e
theorem DvAll.of : ∀ {vs : List V} {ds : List PyData} {i : Nat} {d : PyData}, DvAll K H vs ds → ds[i]? = some d → ∃ v, vs[i]? = some v ∧ Dv K H v d
  | _, _, _, _, .nil, e => by simp at e
  | _, _, 0, _, .cons a _, e => by
    simp at e; subst e; exact ⟨_, rfl, a⟩
  | _, _, i + 1, _, .cons _ b, e => by
    simp at e ⊢; exact DvAll.of b e
theorem dv_ints : ∀ ns : List Int, DvAll K H (ns.map V.int) (ns.map PyData.int)
  | [] => .nil
  | a :: r => .cons (.int a) (dv_ints r)
end
/-- what sort a thing is -/
def tyD : PyData → String
  | .none => "NoneType"
  | .bool _ => "bool"
  | .int _ => "int"
  | .str _ => "str"
  | .list _ => "list"
  | .tuple _ => "tuple"
  | _ => "object"
def boolD : PyData → Bool
  | .bool _ => true
  | _ => false
def intD : PyData → Bool
  | .int _ => true
  | _ => false
def seqD : PyData → Option (List PyData)
  | .list xs => some xs
  | .tuple xs => some xs
  | _ => none
section
variable {K : PySem.W.Frag} {H : Hp} {v : V} {d : PyData} {Q : VK}
theorem SqT.tyX {a : Addr} {xs : List V} (h : SqT K H a xs) : TyX K H (.ref a) (.type "tuple") := by
  rcases h with (h | ⟨o, h⟩) | ⟨o, its, n, h, c, _⟩
  · exact .base (.tup h)
  · exact .fTuple h
  · exact .kTuple h c
theorem Dv.ty (h : Dv K H v d) : TyX K H v (.type (tyD d)) := by
  cases h with
  | non => exact .base .non
  | bl b => exact .base (.bl b)
  | int i => exact .base (.int i)
  | str x => exact .base (.str x)
  | lst h _ => exact .base (.lst h)
  | tup h _ => exact SqT.tyX h
theorem Dv.kits (h : Dv K H v d) : kitB (tyD d) "bool" = some (boolD d) ∧ kitB (tyD d) "int" = some (boolD d || intD d) ∧ kitB (tyD d) "list" = some (tyD d == "list") ∧ kitB (tyD d) "tuple" = some (tyD d == "tuple") ∧ kitB (tyD d) "str" = some (tyD d == "str") ∧ ((tyD d == "list") || (tyD d == "tuple")) = (seqD d).isSome := by
  cases h with
  | non => exact ⟨(by decide +kernel : kitB "NoneType" "bool" = some false), (by decide +kernel : kitB "NoneType" "int" = some false), (by decide +kernel : kitB "NoneType" "list" = some ("NoneType" == "list")), (by decide +kernel : kitB "NoneType" "tuple" = some ("NoneType" == "tuple")), (by decide +kernel : kitB "NoneType" "str" = some ("NoneType" == "str")), (by decide +kernel : (("NoneType" == "list") || ("NoneType" == "tuple")) = false)⟩
  | bl b => exact ⟨(by decide +kernel : kitB "bool" "bool" = some true), (by decide +kernel : kitB "bool" "int" = some true), (by decide +kernel : kitB "bool" "list" = some ("bool" == "list")), (by decide +kernel : kitB "bool" "tuple" = some ("bool" == "tuple")), (by decide +kernel : kitB "bool" "str" = some ("bool" == "str")), (by decide +kernel : (("bool" == "list") || ("bool" == "tuple")) = false)⟩
  | int i => exact ⟨(by decide +kernel : kitB "int" "bool" = some false), (by decide +kernel : kitB "int" "int" = some true), (by decide +kernel : kitB "int" "list" = some ("int" == "list")), (by decide +kernel : kitB "int" "tuple" = some ("int" == "tuple")), (by decide +kernel : kitB "int" "str" = some ("int" == "str")), (by decide +kernel : (("int" == "list") || ("int" == "tuple")) = false)⟩
  | str x => exact ⟨(by decide +kernel : kitB "str" "bool" = some false), (by decide +kernel : kitB "str" "int" = some false), (by decide +kernel : kitB "str" "list" = some ("str" == "list")), (by decide +kernel : kitB "str" "tuple" = some ("str" == "tuple")), (by decide +kernel : kitB "str" "str" = some ("str" == "str")), (by decide +kernel : (("str" == "list") || ("str" == "tuple")) = false)⟩
  | lst _ _ => exact ⟨(by decide +kernel : kitB "list" "bool" = some false), (by decide +kernel : kitB "list" "int" = some false), (by decide +kernel : kitB "list" "list" = some ("list" == "list")), (by decide +kernel : kitB "list" "tuple" = some ("list" == "tuple")), (by decide +kernel : kitB "list" "str" = some ("list" == "str")), (by decide +kernel : (("list" == "list") || ("list" == "tuple")) = true)⟩
  | tup _ _ => exact ⟨(by decide +kernel : kitB "tuple" "bool" = some false), (by decide +kernel : kitB "tuple" "int" = some false), (by decide +kernel : kitB "tuple" "list" = some ("tuple" == "list")), (by decide +kernel : kitB "tuple" "tuple" = some ("tuple" == "tuple")), (by decide +kernel : kitB "tuple" "str" = some ("tuple" == "str")), (by decide +kernel : (("tuple" == "list") || ("tuple" == "tuple")) = true)⟩
theorem d_isB (h : Dv K H v d) (q : Q (.bl (boolD d)) H) : rIsi K [v, .ty "bool"] H Q := ⟨v, _, _, _, _, rfl, .ty _, h.ty, kit_ty h.kits.1, q⟩
theorem d_isI (h : Dv K H v d) (q : Q (.bl (boolD d || intD d)) H) : rIsi K [v, .ty "int"] H Q := ⟨v, _, _, _, _, rfl, .ty _, h.ty, kit_ty h.kits.2.1, q⟩
theorem d_isT (h : Dv K H v d) (q : Q (.bl (tyD d == "tuple")) H) : rIsi K [v, .ty "tuple"] H Q := ⟨v, _, _, _, _, rfl, .ty _, h.ty, kit_ty h.kits.2.2.2.1, q⟩
theorem d_isStr (h : Dv K H v d) (q : Q (.bl (tyD d == "str")) H) : rIsi K [v, .ty "str"] H Q := ⟨v, _, _, _, _, rfl, .ty _, h.ty, kit_ty h.kits.2.2.2.2.1, q⟩
theorem d_isS {p : Addr} (hp : H p = some (.tup [.ty "list", .ty "tuple"])) (h : Dv K H v d) (q : Q (.bl (seqD d).isSome) H) : rIsiT K [v, .ref p] H Q := by
  obtain ⟨_, _, h2, h3, _, h4⟩ := h.kits
  refine ⟨v, p, _, _, _, (seqD d).isSome, rfl, hp, .cons (.ty _) (.cons (.ty _) .nil), h.ty, ?_, q⟩
  refine kitAny_cons (kit_ty h2) (fun e => ?_) fun e => by rw [← h4, e]; rfl
  refine kitAny_cons (kit_ty h3) (fun e2 => ?_) fun e2 => by rw [← h4, e2, Bool.or_true]
  rw [kitAny_nil, ← h4, e, e2]; rfl
/-- a sequence's items -/
theorem Dv.seq (h : Dv K H v d) {ds : List PyData} (e : seqD d = some ds) : ∃ a xs, v = .ref a ∧ (SqL K H a xs ∨ SqT K H a xs) ∧ DvAll K H xs ds := by
  cases h with
  | lst h q => cases e; exact ⟨_, _, rfl, .inl (sqL_at h), q⟩
  | tup h q => cases e; exact ⟨_, _, rfl, .inr h, q⟩
  | _ => cases e
end
/-- is_whole's answer, of data -/
def wholeD : PyData → V → V → Bool
  | .int i, lo, hi => loOk lo i && hiOk hi i
  | _, _, _ => false
end Jv

/-! ### methods, makings that may raise within a try; static methods; readings of objects -/
namespace Jv
open PySem PySem.Spec PyProof.Rows L2
section
variable {X : Cx} {CX : CXT} {k : Nat} {f C : Addr} {fd : FuncData} {ps : List Str} {sp : Sp} {dvs : List V} {ds : List Value} {E : L2.St → XK} {x m : Str} {p pos apos : Pos} {e o : Expr} {es : List Expr} {ta : TE} {t : TA}
theorem run_fnX {pins : List (Addr × Obj)} {σ : L2.St} {H : Hp} {s : Shared} {Q : VK} {us : List Value} {vs : List V} (F : FnOk X.prog X.w X.K X.mg X.base CX k f fd ps sp) (hr : Room k X.A) (hb : Binds X.K fd ps ds) (hd : Vals dvs ds) (hx : PassesAt CX X σ (E σ))
    (I : Inv X pins σ H s) (r : Vals vs us) (h : sp (vs ++ dvs) H Q (E σ)) : wpAny (model X.prog X.w) X.A (call (.ref f) us) (EP X pins σ Q) X.xe s := by
  have r2 : Vals (vs ++ dvs) (us ++ ds) := r.append hd
  have hl : (us ++ ds).length = ps.length := by rw [← r2.length]; exact F.len _ _ _ _ h
  refine wpAny_call (codeAny_mono (F.run X.A X.stack s H ⟨us, []⟩ (us ++ ds) (vs ++ dvs) Q (E σ) hr I.env0 (hb s us I.kIn hl) r2 h) fun r s' hq => ?_)
  cases r with
  | error e => exact hx pins H s e s' I hq
  | ok fl =>
    cases fl with
    | ret u => exact I.after hq
    | next => exact False.elim hq
    | brk => exact False.elim hq
    | cont => exact False.elim hq
def tMethX (C : Addr) (m : Str) (sp : Sp) (dvs : List V) (E : L2.St → XK) (ta : TE) (t : TA) : TE := fun σ H Q => ta σ H fun x H1 => ∃ a dx fs, x = .ref a ∧ H1 a = some (.ins C dx fs) ∧ fs.lookup m = none ∧
  t σ H1 fun vs H2 => sp (x :: (vs ++ dvs)) H2 Q (E σ)
theorem pe_methX {pl : Sem Bool} (he : PE X o ta) (c : Cls X.K C) (hm : Meth X.K C m f) (F : FnOk X.prog X.w X.K X.mg X.base CX k f fd ps sp) (hr : Room k X.A) (hb : Binds X.K fd ps ds) (hd : Vals dvs ds) (hx : ∀ σ, PassesAt CX X σ (E σ)) (ha : PA X (e :: es) t)
    (hst : starEach (e :: es) X.env = (false, eval e X.env) :: starEach es X.env := by rfl) (hpl : (backTo pos (starEach es X.env)).any (·.1) = false := by rfl)
    (ht : eval (.Call (.Attribute o m apos) (e :: es) [] pos) X.env = (do
      let ov ← eval o X.env
      standAt apos.atName
      let (f, first) ← holding [ov] (getMethod ov m pl)
      callWith pos f first (backTo pos (starEach (e :: es) X.env)) (backToKw pos (keywordEach [] X.env))) := by rfl) :
    PE X (.Call (.Attribute o m apos) (e :: es) [] pos) (tMethX C m sp dvs E ta t) := by
  refine ⟨fun pins s σ H Q I h => ?_⟩
  refine PySem.W.methodCall_KW (pl := pl) (thn (he.run pins s σ H _ I h) fun u s1 ⟨x, H1, I1, rx, a, dx, fs, ex, ea, l, q⟩ => ?_) ht
  subst ex
  obtain rfl : u = Value.ref a := rx
  refine getmeth_ok I1 ea c hm l ?_
  refine PySem.W.callWith_K (first := [.ref a]) (h₀ := X.base) I.ok.mod.kin hm.kp (thn (ha.run pos pins s1 σ H1 _ I1 q) fun us s2 ⟨vs, H2, I2, r, q2⟩ => ⟨I2.kIn, ?_⟩) hst hpl
  exact run_fnX (us := .ref a :: us) (vs := .ref a :: vs) F hr hb hd (hx σ) I2 (.cons rfl r) q2
def tMakeX (C : Addr) (sp : Sp) (dvs : List V) (E : L2.St → XK) (t : TA) : TE := fun σ H Q => t σ H fun vs H1 => ∀ x dx, H1 x = none → H1 dx = none → dx ≠ x →
  sp (.ref x :: (vs ++ dvs)) (upd (upd H1 dx (.own x)) x (.ins C dx [])) (fun v H2 => v = .non ∧ Q (.ref x) H2) (E σ)
theorem run_makeX {pins : List (Addr × Obj)} {σ : L2.St} {H : Hp} {s : Shared} {Q : VK} {us : List Value} {vs : List V} (M : Mk X.K C f) (F : FnOk X.prog X.w X.K X.mg X.base CX k f fd ps sp) (hr : Room (k + 1) X.A) (hb : Binds X.K fd ps ds) (hd : Vals dvs ds)
    (hx : PassesAt CX X σ (E σ)) (I : Inv X pins σ H s) (r : Vals vs us)
    (h : ∀ x dx, H x = none → H dx = none → dx ≠ x → sp (.ref x :: (vs ++ dvs)) (upd (upd H dx (.own x)) x (.ins C dx [])) (fun v H2 => v = .non ∧ Q (.ref x) H2) (E σ)) :
    wpAny (model X.prog X.w) X.A (call (.ref C) us) (EP X pins σ Q) X.xe s := by
  have hq := h (s.heap.objs.size + 1) s.heap.objs.size (I.hok.fresh (Nat.le_succ _)) (I.hok.fresh (Nat.le_refl _)) (Nat.ne_of_lt (Nat.lt_succ_self _))
  have I2 := Inv.made (C := C) I
  have r2 : Vals (V.ref (s.heap.objs.size + 1) :: (vs ++ dvs)) (Value.ref (s.heap.objs.size + 1) :: (us ++ ds)) := .cons rfl (r.append hd)
  have hl : (Value.ref (s.heap.objs.size + 1) :: us ++ ds).length = ps.length := by
    have e := r2.length
    rw [F.len _ _ _ _ hq] at e
    exact e.symm
  refine wpAny_call (make_map (f := f) I.kIn M.makes M.init (beq_iff_eq.mp M.fn) (codeAny_mono (F.run _ X.stack _ _ ⟨Value.ref (s.heap.objs.size + 1) :: us, []⟩ (Value.ref (s.heap.objs.size + 1) :: (us ++ ds)) _ _ (E σ) (hr.make C us [])
    (I2.env0.make C us []) (hb _ (Value.ref (s.heap.objs.size + 1) :: us) I2.kIn hl) r2 hq) fun r s' hq' => ?_))
  cases r with
  | error e => exact hx pins _ _ e s' I2 hq'
  | ok fl =>
    cases fl with
    | ret u =>
      obtain ⟨v, H', I3, rv, ev, q3⟩ := I2.after hq'
      subst ev
      exact ⟨rv, ⟨V.ref (s.heap.objs.size + 1), H', I3, rfl, q3⟩⟩
    | next => exact False.elim hq'
    | brk => exact False.elim hq'
    | cont => exact False.elim hq'
theorem pe_makeX (M : Mk X.K C f) (F : FnOk X.prog X.w X.K X.mg X.base CX k f fd ps sp) (hr : Room (k + 1) X.A) (hg : Gl X x) (hm : X.mg x = some (.ref C)) (hb : Binds X.K fd ps ds) (hd : Vals dvs ds) (hx : ∀ σ, PassesAt CX X σ (E σ))
    (ha : PA X (e :: es) t) (hdb : (x == ("__debug__" : Str)) = false := by decide) (he : starEach (e :: es) X.env = (false, eval e X.env) :: starEach es X.env := by rfl) (hpl : (backTo pos (starEach es X.env)).any (·.1) = false := by rfl) :
    PE X (.Call (.Name x p) (e :: es) [] pos) (tMakeX C sp dvs E t) := by
  refine ⟨fun pins s σ H Q I h => ?_⟩
  refine wpAny_Call_Name_kw (ld_glob I hg hm ?_ hdb)
  refine PySem.W.callWith_K (h₀ := X.base) I.ok.mod.kin M.kp (thn (ha.run pos pins s σ H _ I h) fun us s1 ⟨vs, H1, I1, r, q⟩ => ⟨I1.kIn, ?_⟩) he hpl
  exact run_makeX M F hr hb hd (hx σ) I1 r q
end
/-- C.m is a static method: its record at p, its def at g -/
structure SMet (K : PySem.W.Frag) (C : Addr) (mc : Value) (m : Str) (p g : Addr) : Prop where
  rd : PySem.W.readsIn K C mc = true
  ga : PySem.W.specialIn K (.ref C) "__getattribute__" = some (some (.builtin "type.__getattribute__"))
  at_ : PySem.W.findCls K (.ref C) mc m = some (.get (.builtin "staticmethod.__get__") (.ref p) .none (.ref C))
  rc : ∃ rest, PySem.W.recIn K p "staticmethod" = some (.ref g :: rest)
  kp : PySem.W.keepIn K (.ref g) = true
section
variable {X : Cx} {CX : CXT} {k : Nat} {g p C : Addr} {mc : Value} {fd : FuncData} {ps : List Str} {sp : Sp} {dvs : List V} {ds : List Value} {E : XK} {m : Str} {pos apos : Pos} {e o : Expr} {es : List Expr} {ta : TE} {t : TA}
def tSMeth (C : Addr) (sp : Sp) (dvs : List V) (E : XK) (ta : TE) (t : TA) : TE := fun σ H Q => ta σ H fun x H1 => x = .ref C ∧ t σ H1 fun vs H2 => sp (vs ++ dvs) H2 Q E
theorem getsm_ok {pins : List (Addr × Obj)} {σ : L2.St} {H : Hp} {s : Shared} {A : Around} {E : Value → Shared → Prop} {pl : Sem Bool} {Q : Value × List Value → Shared → Prop} (I : Inv X pins σ H s) (r : SMet X.K C mc m p g)
    (h : ∀ s', Inv X pins σ H s' → Q (.ref g, []) s') : wpAny (model X.prog X.w) A (getMethod (.ref C) m pl) Q E s := by
  obtain ⟨rest, hp⟩ := r.rc
  refine PySem.W.method_cls I.kIn r.ga (PySem.W.cls_bind I.kIn r.rd r.at_ ?_)
  exact wpAny_call (PySem.W.sm_get (s := { s with toks := s.toks + 1 }) I.kIn hp (PySem.W.handed_on rfl (h _ (I.tok _))))
theorem pe_smeth {pl : Sem Bool} (he : PE X o ta) (c : SMet X.K C mc m p g) (F : FnOk X.prog X.w X.K X.mg X.base CX k g fd ps sp) (hr : Room k X.A) (hb : Binds X.K fd ps ds) (hd : Vals dvs ds) (hx : Passes CX X E) (ha : PA X (e :: es) t)
    (hst : starEach (e :: es) X.env = (false, eval e X.env) :: starEach es X.env := by rfl) (hpl : (backTo pos (starEach es X.env)).any (·.1) = false := by rfl)
    (ht : eval (.Call (.Attribute o m apos) (e :: es) [] pos) X.env = (do
      let ov ← eval o X.env
      standAt apos.atName
      let (f, first) ← holding [ov] (getMethod ov m pl)
      callWith pos f first (backTo pos (starEach (e :: es) X.env)) (backToKw pos (keywordEach [] X.env))) := by rfl) :
    PE X (.Call (.Attribute o m apos) (e :: es) [] pos) (tSMeth C sp dvs E ta t) := by
  refine ⟨fun pins s σ H Q I h => ?_⟩
  refine PySem.W.methodCall_KW (pl := pl) (thn (he.run pins s σ H _ I h) fun u s1 ⟨x, H1, I1, rx, ex, q⟩ => ?_) ht
  subst ex
  obtain rfl : u = Value.ref C := rx
  refine getsm_ok I1 c fun s2 I2 => ?_
  refine PySem.W.callWith_K (first := []) (h₀ := X.base) I.ok.mod.kin c.kp (thn (ha.run pos pins s2 σ H1 _ I2 q) fun us s3 ⟨vs, H2, I3, rv, q2⟩ => ⟨I3.kIn, ?_⟩) hst hpl
  exact run_fn F hr hb hd hx I3 rv q2
end
end Jv

/-! ### is True, is False of any thing; faults caught by one of two names -/
namespace Jv
open PySem PySem.Spec PyProof.Rows L2
/-- a is b, b True or False -/
def rIsT : R2 := fun x y H Q => ∃ b : Bool, y = .bl b ∧ Q (.bl (decide (x = .bl b))) H
theorem op_isT {X : Cx} : OpR X (compareOp .Is) rIsT := by
  intro pins s σ H x y v u Q I rx ry h
  obtain ⟨b, rfl, q⟩ := h
  cases (show u = Value.bool b from ry)
  by_cases e : x = .bl b
  · subst e
    cases (show v = Value.bool b from rx)
    exact wpAny_is_self rfl ⟨.bl true, H, I, rfl, by simpa using q⟩
  · have e2 : decide (x = .bl b) = false := decide_eq_false e
    rw [e2] at q
    refine wpAny_is_other ?_ ?_ ⟨.bl false, H, I, rfl, q⟩
    · cases x <;> first
        | (cases rx; rfl)
        | (obtain ⟨t, rfl⟩ := rx; rfl)
    · intro z
      cases x with
      | bl c => cases (show v = Value.bool c from rx); exact e (by cases z; rfl)
      | non => cases rx; cases z
      | int i => obtain ⟨t, rfl⟩ := rx; cases z
      | str i => obtain ⟨t, rfl⟩ := rx; cases z
      | byt i => obtain ⟨t, rfl⟩ := rx; cases z
      | flt i => obtain ⟨t, rfl⟩ := rx; cases z
      | ref a => cases (show v = Value.ref a from rx); cases z
      | ty a => cases (show v = Value.type a from rx); cases z
end Jv

/-! ### sequences that stand or are the program's own; walks, comprehensions over them; data's answers -/
namespace Jv
open PySem PySem.Spec PyProof.Rows L2
def Sk (K : PySem.W.Frag) (H : Hp) (x : V) (xs : List V) : Prop := ∃ a, x = .ref a ∧ (SqL K H a xs ∨ SqT K H a xs)
section
variable {K : PySem.W.Frag} {σ : L2.St} {H H' : Hp} {te : TE} {Q : VK} {xs : List V} {ds : List PyData} {j i : Nat} {x v : V} {d : PyData}
theorem Sk.same (h : Sk K H x xs) (s : Same H H') : Sk K H' x xs := by
  obtain ⟨a, rfl, h | h⟩ := h
  · exact ⟨a, rfl, .inl (s.seq h)⟩
  · exact ⟨a, rfl, .inr (Jv.Same.sqT s h)⟩
theorem Dv.sk (h : Dv K H v d) (e : seqD d = some ds) : ∃ xs, Sk K H v xs ∧ DvAll K H xs ds := by
  obtain ⟨a, xs, e1, e2, e3⟩ := h.seq e
  exact ⟨xs, ⟨a, e1, e2⟩, e3⟩
theorem Sk.len (h : Sk K H x xs) (q : Q (.int xs.length) H) : rLenK K [x] H Q := by
  obtain ⟨a, rfl, h⟩ := h
  exact r_len h q
theorem Sk.ix (h : Sk K H x xs) {k : Int} {v : V} (e : atI xs k = some v) (q : Q v H) : rIx K x (.int k) H Q := by
  obtain ⟨a, rfl, h | h⟩ := h
  · exact .inl (r_ixL h e q)
  · exact .inr (.inl (r_ixT h e q))
/-- over a name that holds a list or a tuple -/
theorem lcK (hv : σ[i]? = some (some x)) (hx : Sk K H x xs) (f : V → V) (few : xs.length ≤ 1000)
    (hs : ∀ v H1, v ∈ xs → Same H H1 → ∀ P : VK, (∀ H2, Same H1 H2 → P (f v) H2) → te ((σ.set j none).set j (some v)) H1 P)
    (hd : ∀ D H1, Same H H1 → H D = none → H1 D = some (.lst (xs.map f)) → Q (.ref D) H1) : tLc (fun σ H R => iList K (tVar i) σ H R ∨ iTup K (tVar i) σ H R) (gName j) tYes te [j] σ H Q := by
  obtain ⟨a, rfl, h | h⟩ := hx
  · exact .inl (lcL hv h f few hs hd)
  · exact .inr (lcT hv h f few hs hd)
theorem Sk.tup (h : Sk K H x xs) (q : ∀ (t : Addr) (H' : Hp), Same H H' → SqT K H' t xs → Q (.ref t) H') : rTupOf K [x] H Q := by
  obtain ⟨a, rfl, h | h⟩ := h
  · exact ⟨a, _, rfl, .inl ⟨h, fun l hl => q l _ (same_new hl) (sqT_at upd_same)⟩⟩
  · exact ⟨a, _, rfl, .inr ⟨h, q a _ (Same.refl _) h⟩⟩
end
def few1 (d : PyData) : Prop := ∀ ds, seqD d = some ds → ds.length ≤ 100
def few2 (d : PyData) : Prop := ∀ ds, seqD d = some ds → ds.length ≤ 100 ∧ ∀ e ∈ ds, few1 e
def few3 (d : PyData) : Prop := ∀ ds, seqD d = some ds → ds.length ≤ 100 ∧ ∀ e ∈ ds, few2 e
theorem DvAll.mem {K : PySem.W.Frag} {H : Hp} : ∀ {vs : List V} {ds : List PyData} {v : V}, DvAll K H vs ds → v ∈ vs → ∃ d ∈ ds, Dv K H v d
  | _, _, _, .nil, m => by cases m
  | _, _, _, .cons a b, m => by
    rcases List.mem_cons.mp m with rfl | m
    · exact ⟨_, List.mem_cons_self, a⟩
    · obtain ⟨d, h1, h2⟩ := DvAll.mem b m
      exact ⟨d, List.mem_cons_of_mem _ h1, h2⟩
theorem Dv.whole {K : PySem.W.Frag} {H : Hp} {v lo hi : V} {d : PyData} (h : Dv K H v d) : wholeV v lo hi = wholeD d lo hi := by
  cases h <;> rfl
/-- a function of things that goes by what they are -/
theorem DvAll.all {K : PySem.W.Frag} {H : Hp} {f : V → Bool} {g : PyData → Bool} (e : ∀ v d, Dv K H v d → f v = g d) : ∀ {vs : List V} {ds : List PyData}, DvAll K H vs ds → vs.all f = ds.all g
  | _, _, .nil => rfl
  | _, _, .cons a b => by rw [List.all_cons, List.all_cons, e _ _ a, DvAll.all e b]
def sidesD (d : PyData) : Bool := match seqD d with
  | some [.int p, .int q] => decide ((1 ≤ p ∧ p ≤ 6) ∧ (1 ≤ q ∧ q ≤ 6) ∧ p * q ≤ 12)
  | _ => false
def endsD (l : Int) (d : PyData) : Bool := match seqD d with
  | some ds => decide (0 < ds.length) && ds.all fun e => wholeD e (.int (-l)) (.int l)
  | none => false
def knowsD (d : PyData) : Bool := match seqD d with
  | some ds => decide (ds.length = 2) && ds.all boolD
  | none => false
theorem boolD_iff {K : PySem.W.Frag} {H : Hp} {v : V} {d : PyData} (h : Dv K H v d) : (decide (v = .bl true) || decide (v = .bl false)) = boolD d := by
  cases h with
  | bl b => cases b <;> rfl
  | _ => rfl
theorem wholeD_int {d : PyData} {l h : Int} : wholeD d (.int l) (.int h) = true → ∃ i, d = .int i ∧ l ≤ i ∧ i ≤ h := by
  intro q
  cases d with
  | int i => simp [wholeD, loOk, hiOk] at q; exact ⟨i, rfl, q⟩
  | _ => cases q
/-- how many lines, how long -/
def linesD (d : PyData) : Option (Nat × Nat) := match seqD d with
  | none => none
  | some ds => if ds.all (fun e => (seqD e).isSome) = true then
      match ds.map (fun e => ((seqD e).getD []).length) with
      | [] => none
      | n :: ns => if ns.all (fun m => decide (m = n)) = true then some (ns.length + 1, n) else none
    else none
end Jv

/-! ### comprehensions whose results are data; the lists under way hidden -/
namespace Jv
open PySem PySem.Spec PyProof.Rows L2
def hide (N : List Addr) (H : Hp) : Hp := fun b => if b ∈ N then none else H b
theorem hide_nil {H : Hp} : hide [] H = H := by funext b; simp [hide]
theorem hide_at {N : List Addr} {H : Hp} {b : Addr} {o : HO} (n : b ∉ N) (h : H b = some o) : hide N H b = some o := by unfold hide; rw [if_neg n]; exact h
theorem hide_some {N : List Addr} {H : Hp} {b : Addr} {o : HO} (h : hide N H b = some o) : b ∉ N ∧ H b = some o := by
  unfold hide at h
  by_cases n : b ∈ N
  · rw [if_pos n] at h; cases h
  · rw [if_neg n] at h; exact ⟨n, h⟩
theorem hide_le {N : List Addr} {H : Hp} : Same (hide N H) H := fun _ _ e => (hide_some e).2
theorem hide_same {N : List Addr} {H H' : Hp} (s : Same H H') : Same (hide N H) (hide N H') := fun _ _ e => hide_at (hide_some e).1 (s _ _ (hide_some e).2)
theorem hide_more {N : List Addr} {H H' : Hp} {D : Addr} (s : Same H H') (n : H D = none) : Same (hide N H) (hide (D :: N) H') := fun b o e => by
  obtain ⟨h1, h2⟩ := hide_some e
  refine hide_at (fun m => ?_) (s _ _ h2)
  rcases List.mem_cons.mp m with rfl | m
  · rw [n] at h2; cases h2
  · exact h1 m
theorem hide_less {N : List Addr} {H : Hp} {D : Addr} : Same (hide (D :: N) H) (hide N H) := fun b o e => by
  obtain ⟨h1, h2⟩ := hide_some e
  exact hide_at (fun m => h1 (List.mem_cons_of_mem _ m)) h2
theorem hide_upd {N : List Addr} {H : Hp} {D : Addr} {o : HO} : hide (D :: N) (upd H D o) = hide (D :: N) H := by
  funext b
  unfold hide
  by_cases m : b ∈ D :: N
  · rw [if_pos m, if_pos m]
  · rw [if_neg m, if_neg m]
    exact upd_ne fun e => m (by rw [e]; exact List.mem_cons_self)
def Held (N : List Addr) (H : Hp) : Prop := ∀ b ∈ N, ∃ o, H b = some o
theorem Held.nil {H : Hp} : Held [] H := fun _ h => by cases h
theorem Held.same {N : List Addr} {H H' : Hp} (h : Held N H) (s : Same H H') : Held N H' := fun b m => let ⟨o, e⟩ := h b m; ⟨o, s _ _ e⟩
theorem Held.cons {N : List Addr} {H : Hp} {D : Addr} {o : HO} (h : Held N H) (e : H D = some o) : Held (D :: N) H := fun b m => by
  rcases List.mem_cons.mp m with rfl | m
  · exact ⟨_, e⟩
  · exact h b m
theorem Held.new {N : List Addr} {H : Hp} {t : Addr} (h : Held N H) (n : H t = none) : t ∉ N := fun m => by
  obtain ⟨o, e⟩ := h t m
  rw [n] at e; cases e
section
variable {K : PySem.W.Frag} {σ : L2.St} {H : Hp} {te : TE} {tt : TT} {Q : VK} {xs : List V} {es : List PyData} {j i n : Nat} {x : V} {N : List Addr} {J : It} {G : Hp → Prop} {Y : Nat → Hp → V → Hp → Prop} {F : Nat → V → Prop}
theorem lcD (w : Walk J n G Y) (hG : ∀ H', Same H H' → G H') (hy : ∀ i H x H', i < n → Y i H x H' → H' = H ∧ F i x) (hN : Held N H) (es : List PyData) (hl : es.length = n) (few : n ≤ 1000)
    (hs : ∀ i v e D H1, i < n → F i v → es[i]? = some e → Same H H1 → Held (D :: N) H1 → H D = none → ∀ P : VK, (∀ y H2, Same H1 H2 → Dv K (hide (D :: N) H2) y e → P y H2) → te ((σ.set j none).set j (some v)) H1 P)
    (hd : ∀ D ys H1, Same H H1 → H D = none → H1 D = some (.lst ys) → DvAll K (hide N H1) ys es → DvAll K (hide (D :: N) H1) ys es → Q (.ref D) H1) : ∀ D, H D = none → ∃ W : Nat → Nat → Hp → Prop, (∃ m, W 0 m (upd H D (.lst []))) ∧ ∀ i m H, W i m H →
      (J.stop i H ∧ Q (.ref D) H) ∨ (J.go i H ∧ ∃ Nx : Hp → Prop, (∀ H', Nx H' → ∃ m', m' < m ∧ W (i + 1) m' H') ∧ ∀ x H', J.yld i H x H' → gName j x (wipe σ [j]) H' fun σ2 H2 => wipe σ2 [j] = wipe σ [j] ∧ tYes σ2 H2 fun b H3 =>
        if b = true then te σ2 H3 fun y H4 => ∃ acc, H4 D = some (.lst acc) ∧ acc.length < sizeLine ∧ Nx (upd H4 D (.lst (acc ++ [y]))) else Nx H3) := by
  intro D hD
  refine lc_it w (fun i H1 => Same H H1 ∧ ∃ ys, H1 D = some (.lst ys) ∧ DvAll K (hide (D :: N) H1) ys (es.take i)) ⟨same_new hD, [], upd_same, .nil⟩ (fun i H1 _ h => hG H1 h.1) ?_ ?_
  · rintro i x H1 H2 hi ⟨s1, ys, e1, al⟩ hx
    obtain ⟨e0, hF⟩ := hy i _ _ _ hi hx
    subst e0
    refine ⟨wipe1, ?_⟩
    refine r_yes ?_
    refine r_true (c := true) rfl ?_
    have hie : i < es.length := by omega
    have he := List.getElem?_eq_getElem hie
    refine hs i x _ D _ hi hF he s1 ((hN.same s1).cons e1) hD _ fun y H3 s3 dy => ⟨_, s3 _ _ e1, ?_, ?_, _, upd_same, ?_⟩
    · rw [al.len, List.length_take]; exact small_lt (by omega)
    · intro b o e; exact kpO (s3 _ _ (s1 b o e)) (ne_of_none e hD)
    · rw [hide_upd, take_more he]
      exact DvAll.snoc dy (al.same (hide_same s3))
  · rintro H1 ⟨s1, ys, e1, al⟩
    rw [List.take_of_length_le (by omega)] at al
    exact hd D ys H1 s1 hD e1 (al.same hide_less) al
theorem yat {xs : List V} : ∀ (i : Nat) (H : Hp) (x : V) (H' : Hp), i < xs.length → YAt xs i H x H' → H' = H ∧ xs[i]? = some x := fun _ _ _ _ _ h => h
theorem yfn {f : Nat → V} {n : Nat} : ∀ (i : Nat) (H : Hp) (x : V) (H' : Hp), i < n → YFn f i H x H' → H' = H ∧ x = f i := fun _ _ _ _ _ h => h
/-- over a name that holds a list or a tuple; the results' data by the data's -/
theorem lcS2 (hv : σ[i]? = some (some x)) (hx : Sk K H x xs) (hN : Held N H) (es : List PyData) (hl : es.length = xs.length) (few : xs.length ≤ 1000)
    (hs : ∀ i v e D H1, i < xs.length → xs[i]? = some v → es[i]? = some e → Same H H1 → Held (D :: N) H1 → H D = none → ∀ P : VK, (∀ y H2, Same H1 H2 → Dv K (hide (D :: N) H2) y e → P y H2) → te ((σ.set j none).set j (some v)) H1 P)
    (hd : ∀ D ys H1, Same H H1 → H D = none → H1 D = some (.lst ys) → DvAll K (hide N H1) ys es → DvAll K (hide (D :: N) H1) ys es → Q (.ref D) H1) : tLc (fun σ H R => iList K (tVar i) σ H R ∨ iTup K (tVar i) σ H R) (gName j) tYes te [j] σ H Q := by
  obtain ⟨a, rfl, h | h⟩ := hx
  · exact .inl ⟨_, hv, a, rfl, ⟨xs, h⟩, lcD walk_list (fun H' s => s.seq h) yat hN es hl few hs hd⟩
  · exact .inr ⟨_, hv, a, rfl, ⟨xs, h⟩, lcD walk_tup (fun H' s => Jv.Same.sqT s h) yat hN es hl few hs hd⟩
end
/-- results that are truths -/
theorem dv_bools {K : PySem.W.Frag} {H : Hp} : ∀ {ys : List V} {bs : List Bool}, DvAll K H ys (bs.map PyData.bool) → ys = bs.map V.bl
  | [], [], _ => rfl
  | _, b :: bs, .cons (.bl _) r => by rw [dv_bools r]; rfl
theorem dv_intsV {K : PySem.W.Frag} {H : Hp} : ∀ {ys : List V} {ns : List Int}, DvAll K H ys (ns.map PyData.int) → ys = ns.map V.int
  | [], [], _ => rfl
  | _, b :: bs, .cons (.int _) r => by rw [dv_intsV r]; rfl
end Jv

/-! ### comprehensions of two walks over data -/
namespace Jv
open PySem PySem.Spec PyProof.Rows L2
def rowG (g : PyData → PyData) (r : PyData) : List PyData := ((seqD r).getD []).map g
def upTo (g : PyData → PyData) (ds : List PyData) (m n : Nat) : List PyData := (ds.take m).flatMap (rowG g) ++ (((ds[m]?.map (rowG g)).getD []).take n)
theorem upTo_more {g : PyData → PyData} {ds : List PyData} {m n : Nat} {r d : PyData} {l : List PyData} (hr : ds[m]? = some r) (hl : seqD r = some l) (hd : l[n]? = some d) : upTo g ds m (n + 1) = upTo g ds m n ++ [g d] := by
  unfold upTo
  rw [hr, List.append_assoc]
  congr 1
  show (rowG g r).take (n + 1) = (rowG g r).take n ++ [g d]
  refine take_more ?_
  unfold rowG
  rw [hl]
  show (l.map g)[n]? = _
  rw [List.getElem?_map, hd]; rfl
theorem upTo_next {g : PyData → PyData} {ds : List PyData} {m : Nat} {r : PyData} {l : List PyData} (hr : ds[m]? = some r) (hl : seqD r = some l) : upTo g ds m l.length = upTo g ds (m + 1) 0 := by
  unfold upTo
  rw [hr, take_more hr, List.flatMap_append]
  have : (rowG g r).take l.length = rowG g r := by
    unfold rowG; rw [hl]
    exact List.take_of_length_le (by show (l.map g).length ≤ _; rw [List.length_map]; exact Nat.le_refl _)
  show _ ++ (rowG g r).take l.length = _
  rw [this]
  simp
theorem upTo_end {g : PyData → PyData} {ds : List PyData} : upTo g ds ds.length 0 = ds.flatMap (rowG g) := by
  unfold upTo
  simp
theorem flat_len {f : PyData → List PyData} : ∀ {l : List PyData}, (∀ e ∈ l, (f e).length ≤ 100) → (l.flatMap f).length ≤ l.length * 100
  | [], _ => by simp
  | a :: r, h => by
    have h1 := h a List.mem_cons_self
    have h2 := flat_len (l := r) fun e m => h e (List.mem_cons_of_mem _ m)
    rw [List.flatMap_cons, List.length_append, List.length_cons, Nat.succ_mul]; omega
section
variable {K : PySem.W.Frag} {σ : L2.St} {H : Hp} {te : TE} {Q : VK} {xs : List V} {ds : List PyData} {i a b : Nat} {x : V} {N : List Addr}
theorem lc2W {J : It} {G : Hp → Prop} (w : Walk J xs.length G (YAt xs)) (hG : ∀ H', Same H H' → G H') (al : DvAll K H xs ds) (hN : Held N H) (g : PyData → PyData)
    (hq : ∀ e ∈ ds, ∃ l, seqD e = some l ∧ l.length ≤ 100) (few : ds.length ≤ 100)
    (w1 : ∀ v, wipe ((wipe σ [a, b]).set a (some v)) [a, b] = wipe σ [a, b])
    (w2 : ∀ v u, wipe ((wipe ((wipe σ [a, b]).set a (some v)) [b]).set b (some u)) [b] = wipe ((wipe σ [a, b]).set a (some v)) [b])
    (ha : ∀ v, ((wipe σ [a, b]).set a (some v))[a]? = some (some v))
    (hs : ∀ v u d D H1, Dv K H1 u d → (∃ e ∈ ds, ∃ l, seqD e = some l ∧ d ∈ l) → Same H H1 → Held (D :: N) H1 → H D = none → ∀ P : VK, (∀ y H2, Same H1 H2 → Dv K (hide (D :: N) H2) y (g d) → P y H2) → te ((wipe ((wipe σ [a, b]).set a (some v)) [b]).set b (some u)) H1 P)
    (hd : ∀ D ys H1, Same H H1 → H D = none → H1 D = some (.lst ys) → DvAll K (hide N H1) ys (ds.flatMap (rowG g)) → Q (.ref D) H1) :
    ∀ D, H D = none → ∃ W : Nat → Nat → Hp → Prop, (∃ m, W 0 m (upd H D (.lst []))) ∧ ∀ i m H, W i m H →
      (J.stop i H ∧ Q (.ref D) H) ∨ (J.go i H ∧ ∃ Nx : Hp → Prop, (∀ H', Nx H' → ∃ m', m' < m ∧ W (i + 1) m' H') ∧ ∀ x H', J.yld i H x H' → gName a x (wipe σ [a, b]) H' fun σ2 H2 => wipe σ2 [a, b] = wipe σ [a, b] ∧ tYes σ2 H2 fun c H3 =>
        if c = true then (iList K (tVar a) σ2 H3 fun J1 H4 => ∃ W1 : Nat → Nat → Hp → Prop, (∃ m, W1 0 m H4) ∧ ∀ j k H, W1 j k H →
          (J1.stop j H ∧ Nx H) ∨ (J1.go j H ∧ ∃ Nx1 : Hp → Prop, (∀ H', Nx1 H' → ∃ k', k' < k ∧ W1 (j + 1) k' H') ∧ ∀ x H', J1.yld j H x H' → gName b x (wipe σ2 [b]) H' fun σ3 H5 => wipe σ3 [b] = wipe σ2 [b] ∧ tYes σ3 H5 fun c H6 =>
            if c = true then te σ3 H6 fun y H7 => ∃ acc, H7 D = some (.lst acc) ∧ acc.length < sizeLine ∧ Nx1 (upd H7 D (.lst (acc ++ [y]))) else Nx1 H6)) ∨ (iTup K (tVar a) σ2 H3 fun J1 H4 => ∃ W1 : Nat → Nat → Hp → Prop, (∃ m, W1 0 m H4) ∧ ∀ j k H, W1 j k H →
          (J1.stop j H ∧ Nx H) ∨ (J1.go j H ∧ ∃ Nx1 : Hp → Prop, (∀ H', Nx1 H' → ∃ k', k' < k ∧ W1 (j + 1) k' H') ∧ ∀ x H', J1.yld j H x H' → gName b x (wipe σ2 [b]) H' fun σ3 H5 => wipe σ3 [b] = wipe σ2 [b] ∧ tYes σ3 H5 fun c H6 =>
            if c = true then te σ3 H6 fun y H7 => ∃ acc, H7 D = some (.lst acc) ∧ acc.length < sizeLine ∧ Nx1 (upd H7 D (.lst (acc ++ [y]))) else Nx1 H6))
        else Nx H3) := by
  intro D hD
  have hlen := al.len
  have bound : ∀ m n, (upTo g ds m n).length < 20000 := by
    intro m n
    unfold upTo
    rw [List.length_append, List.length_take]
    have row : ∀ e ∈ ds, (rowG g e).length ≤ 100 := fun e he => by
      obtain ⟨l, h1, h2⟩ := hq e he
      unfold rowG; rw [h1]; show (l.map g).length ≤ 100; rw [List.length_map]; exact h2
    have h1 := flat_len (f := rowG g) (l := ds.take m) fun e he => row e (List.mem_of_mem_take he)
    have h2 : (ds.take m).length ≤ 100 := by rw [List.length_take]; omega
    have h3 : ((ds[m]?.map (rowG g)).getD []).length ≤ 100 := by
      cases e : ds[m]? with
      | none => simp
      | some r => exact row r (List.mem_of_getElem? e)
    omega
  refine ⟨fun m k H1 => k = xs.length - m ∧ m ≤ xs.length ∧ Same H H1 ∧ ∃ ys, H1 D = some (.lst ys) ∧ DvAll K (hide (D :: N) H1) ys (upTo g ds m 0), ⟨xs.length, by omega, by omega, same_new hD, [], upd_same, by unfold upTo; simp; exact .nil⟩, ?_⟩
  rintro m k H1 ⟨rfl, hm, s1, ys, e1, dv⟩
  by_cases lt : m < xs.length
  · refine .inr ⟨w.goes m H1 lt (hG _ s1), fun H' => Same H H' ∧ ∃ ys, H' D = some (.lst ys) ∧ DvAll K (hide (D :: N) H') ys (upTo g ds (m + 1) 0), fun H' h => ⟨xs.length - (m + 1), by omega, rfl, lt, h⟩, ?_⟩
    rintro v H2 hv0
    obtain ⟨e2, hv⟩ := w.yields m H1 v H2 lt (hG _ s1) hv0
    subst e2
    obtain ⟨r, hr, dr⟩ := al.at hv
    have hrm := List.mem_of_getElem? hr
    obtain ⟨l, hl, fl⟩ := hq r hrm
    refine ⟨w1 _, r_yes (r_true (c := true) rfl ?_)⟩
    obtain ⟨us, ⟨p, ep, hp⟩, du⟩ := dr.sk hl
    subst ep
    have hul := du.len
    have core : ∀ (J1 : It) (G1 : Hp → Prop), Walk J1 us.length G1 (YAt us) → (∀ H', Same H H' → G1 H') → ∃ W1 : Nat → Nat → Hp → Prop, (∃ m, W1 0 m H2) ∧ ∀ j k H5, W1 j k H5 →
        (J1.stop j H5 ∧ (Same H H5 ∧ ∃ ys, H5 D = some (.lst ys) ∧ DvAll K (hide (D :: N) H5) ys (upTo g ds (m + 1) 0))) ∨ (J1.go j H5 ∧ ∃ Nx1 : Hp → Prop, (∀ H', Nx1 H' → ∃ k', k' < k ∧ W1 (j + 1) k' H') ∧ ∀ x H', J1.yld j H5 x H' → gName b x (wipe ((wipe σ [a, b]).set a (some (.ref p))) [b]) H' fun σ3 H5 => wipe σ3 [b] = wipe ((wipe σ [a, b]).set a (some (.ref p))) [b] ∧ tYes σ3 H5 fun c H6 =>
          if c = true then te σ3 H6 fun y H7 => ∃ acc, H7 D = some (.lst acc) ∧ acc.length < sizeLine ∧ Nx1 (upd H7 D (.lst (acc ++ [y]))) else Nx1 H6) := by
      intro J1 G1 wk hG1
      refine ⟨fun j k H5 => k = us.length - j ∧ j ≤ us.length ∧ Same H H5 ∧ ∃ ys, H5 D = some (.lst ys) ∧ DvAll K (hide (D :: N) H5) ys (upTo g ds m j), ⟨us.length, by omega, by omega, s1, ys, e1, dv⟩, ?_⟩
      rintro j k H5 ⟨rfl, hj, s5, zs, e5, dz⟩
      by_cases lt2 : j < us.length
      · refine .inr ⟨wk.goes j H5 lt2 (hG1 _ s5), fun H' => Same H H' ∧ ∃ ys, H' D = some (.lst ys) ∧ DvAll K (hide (D :: N) H') ys (upTo g ds m (j + 1)), fun H' h => ⟨us.length - (j + 1), by omega, rfl, lt2, h⟩, ?_⟩
        rintro u H6 hu0
        obtain ⟨e6, hu⟩ := wk.yields j H5 u H6 lt2 (hG1 _ s5) hu0
        subst e6
        obtain ⟨d, hd1, dd⟩ := du.at hu
        refine ⟨w2 _ _, r_yes (r_true (c := true) rfl ?_)⟩
        refine hs _ _ d D _ (dd.same s5) ⟨r, hrm, l, hl, List.mem_of_getElem? hd1⟩ s5 ((hN.same s5).cons e5) hD _ fun y H7 s7 dy => ⟨_, s7 _ _ e5, ?_, ?_, _, upd_same, ?_⟩
        · rw [dz.len]
          exact Nat.lt_of_lt_of_le (bound m j) (by decide)
        · intro c o hc; exact kpO (s7 _ _ (s5 c o hc)) (ne_of_none hc hD)
        · rw [hide_upd, upTo_more hr hl hd1]
          exact DvAll.snoc dy (dz.same (hide_same s7))
      · have ej : j = l.length := by omega
        subst ej
        refine .inl ⟨by rw [← hul]; exact wk.stops H5 (hG1 _ s5), s5, zs, e5, ?_⟩
        rw [← upTo_next hr hl]; exact dz
    rcases hp with hp | hp
    · exact .inl ⟨_, ha _, p, rfl, ⟨us, s1.seq hp⟩, core _ _ walk_list fun H' s => s.seq hp⟩
    · exact .inr ⟨_, ha _, p, rfl, ⟨us, Jv.Same.sqT s1 hp⟩, core _ _ walk_tup fun H' s => Jv.Same.sqT s hp⟩
  · have em : m = xs.length := by omega
    subst em
    refine .inl ⟨w.stops H1 (hG _ s1), hd D ys H1 s1 hD e1 ?_⟩
    rw [hlen, upTo_end] at dv
    exact dv.same hide_less
theorem lc2D (hv : σ[i]? = some (some x)) (hx : Sk K H x xs) (al : DvAll K H xs ds) (hN : Held N H) (g : PyData → PyData)
    (hq : ∀ e ∈ ds, ∃ l, seqD e = some l ∧ l.length ≤ 100) (few : ds.length ≤ 100)
    (w1 : ∀ v, wipe ((wipe σ [a, b]).set a (some v)) [a, b] = wipe σ [a, b])
    (w2 : ∀ v u, wipe ((wipe ((wipe σ [a, b]).set a (some v)) [b]).set b (some u)) [b] = wipe ((wipe σ [a, b]).set a (some v)) [b])
    (ha : ∀ v, ((wipe σ [a, b]).set a (some v))[a]? = some (some v))
    (hs : ∀ v u d D H1, Dv K H1 u d → (∃ e ∈ ds, ∃ l, seqD e = some l ∧ d ∈ l) → Same H H1 → Held (D :: N) H1 → H D = none → ∀ P : VK, (∀ y H2, Same H1 H2 → Dv K (hide (D :: N) H2) y (g d) → P y H2) → te ((wipe ((wipe σ [a, b]).set a (some v)) [b]).set b (some u)) H1 P)
    (hd : ∀ D ys H1, Same H H1 → H D = none → H1 D = some (.lst ys) → DvAll K (hide N H1) ys (ds.flatMap (rowG g)) → Q (.ref D) H1) :
    tLc2 (fun σ H R => iList K (tVar i) σ H R ∨ iTup K (tVar i) σ H R) (gName a) tYes (fun σ H R => iList K (tVar a) σ H R ∨ iTup K (tVar a) σ H R) (gName b) tYes te [a, b] [b] σ H Q := by
  obtain ⟨p, rfl, h | h⟩ := hx
  · exact .inl ⟨_, hv, p, rfl, ⟨xs, h⟩, lc2W walk_list (fun H' s => s.seq h) al hN g hq few w1 w2 ha hs hd⟩
  · exact .inr ⟨_, hv, p, rfl, ⟨xs, h⟩, lc2W walk_tup (fun H' s => Jv.Same.sqT s h) al hN g hq few w1 w2 ha hs hd⟩
end
end Jv

/-! ### data beside an object's change; readings of fields -/
namespace Jv
open PySem PySem.Spec PyProof.Rows L2
section
variable {K : PySem.W.Frag} {H : Hp} {a C dx : Addr} {fs : List (Str × V)} {o : HO}
theorem SqT.ins (ha : H a = some (.ins C dx fs)) {b : Addr} {xs : List V} (h : SqT K H b xs) : SqT K (upd H a o) b xs := by
  rcases h with (h | ⟨u, h⟩) | h
  · exact .inl (.inl (kpO h fun e => by rw [e, ha] at h; cases h))
  · exact .inl (.inr ⟨u, kpO h fun e => by rw [e, ha] at h; cases h⟩)
  · exact .inr h
mutual
theorem Dv.ins (ha : H a = some (.ins C dx fs)) : ∀ {v : V} {d : PyData}, Dv K H v d → Dv K (upd H a o) v d
  | _, _, .non => .non
  | _, _, .bl b => .bl b
  | _, _, .int i => .int i
  | _, _, .str x => .str x
  | _, _, .lst h q => .lst (kpO h fun e => by rw [e, ha] at h; cases h) (DvAll.ins ha q)
  | _, _, .tup h q => .tup (Jv.SqT.ins ha h) (DvAll.ins ha q)
theorem DvAll.ins (ha : H a = some (.ins C dx fs)) : ∀ {vs : List V} {ds : List PyData}, DvAll K H vs ds → DvAll K (upd H a o) vs ds
  | _, _, .nil => .nil
  | _, _, .cons x y => .cons (Dv.ins ha x) (DvAll.ins ha y)
end
theorem r_sfld {ta tv : TE} {f : Str} {D : Ends} {σ : L2.St} (h : tv σ H fun y H1 => ta σ H1 fun x H2 => ∃ a C dx fs, x = .ref a ∧ H2 a = some (.ins C dx fs) ∧ Cls K C ∧ NoAttr K C f ∧ fs.length < 1000 ∧
  D.nx σ (upd H2 a (.ins C dx (putF f y fs)))) : sFld K ta tv f D σ H := h
theorem r_fld {ta : TE} {f : Str} {σ : L2.St} {Q : VK} (h : ta σ H fun x H1 => ∃ a C dx fs v, x = .ref a ∧ H1 a = some (.ins C dx fs) ∧ Cls K C ∧ NoAttr K C f ∧ fs.lookup f = some v ∧ Q v H1) : tFld K ta f σ H Q := h
end
/-- a new tuple of data -/
theorem dv_new {K : PySem.W.Frag} {H : Hp} {N : List Addr} {t : Addr} {xs : List V} {ds : List PyData} (n : H t = none) (hN : Held N H) (h : DvAll K (hide N H) xs ds) : Dv K (hide N (upd H t (.tup xs))) (.ref t) (.tuple ds) :=
  .tup (sqT_at (hide_at (hN.new n) upd_same)) (h.same (hide_same (same_new n)))
theorem dv_newL {K : PySem.W.Frag} {H : Hp} {N : List Addr} {t : Addr} {xs : List V} {ds : List PyData} (n : H t = none) (hN : Held N H) (h : DvAll K (hide N H) xs ds) : Dv K (hide N (upd H t (.lst xs))) (.ref t) (.list ds) :=
  .lst (hide_at (hN.new n) upd_same) (h.same (hide_same (same_new n)))
end Jv

/-! ### comprehensions over what an expression gives; filters of numbers -/
namespace Jv
open PySem PySem.Spec PyProof.Rows L2
section
variable {K : PySem.W.Frag} {σ : L2.St} {H : Hp} {te te0 : TE} {tt : TT} {Q : VK} {xs : List V} {es : List PyData} {j i n : Nat} {x : V} {N : List Addr}
theorem lcS3 (hit : ∀ P : VK, P x H → te0 σ H P) (hx : Sk K H x xs) (hN : Held N H) (es : List PyData) (hl : es.length = xs.length) (few : xs.length ≤ 1000)
    (hs : ∀ i v e D H1, i < xs.length → xs[i]? = some v → es[i]? = some e → Same H H1 → Held (D :: N) H1 → H D = none → ∀ P : VK, (∀ y H2, Same H1 H2 → Dv K (hide (D :: N) H2) y e → P y H2) → te ((σ.set j none).set j (some v)) H1 P)
    (hd : ∀ D ys H1, Same H H1 → H D = none → H1 D = some (.lst ys) → DvAll K (hide N H1) ys es → DvAll K (hide (D :: N) H1) ys es → Q (.ref D) H1) : tLc (fun σ H R => iList K te0 σ H R ∨ iTup K te0 σ H R) (gName j) tYes te [j] σ H Q := by
  obtain ⟨a, rfl, h | h⟩ := hx
  · exact .inl (hit _ ⟨a, rfl, ⟨xs, h⟩, lcD walk_list (fun H' s => s.seq h) yat hN es hl few hs hd⟩)
  · exact .inr (hit _ ⟨a, rfl, ⟨xs, h⟩, lcD walk_tup (fun H' s => Jv.Same.sqT s h) yat hN es hl few hs hd⟩)
theorem filter_more {f : Int → Bool} {ns : List Int} {i : Nat} {z : Int} (h : ns[i]? = some z) : (ns.take (i + 1)).filter f = (ns.take i).filter f ++ if f z = true then [z] else [] := by
  rw [take_more h, List.filter_append]
  congr 1
  by_cases c : f z = true
  · simp [c]
  · simp [c]
/-- the numbers of a list or a tuple at which a test holds -/
theorem lcFW {J : It} {G : Hp → Prop} {ns : List Int} (w : Walk J (ns.map V.int).length G (YAt (ns.map V.int))) (hG : ∀ H', Same H H' → G H') (f : Int → Bool) (few : ns.length ≤ 1000)
    (ht : ∀ z H1, z ∈ ns → Same H H1 → ∀ R : Bool → Hp → Prop, (∀ H2, Same H1 H2 → R (f z) H2) → tt ((σ.set j none).set j (some (.int z))) H1 R)
    (hs : ∀ z H1, ∀ P : VK, P (.int z) H1 → te ((σ.set j none).set j (some (.int z))) H1 P)
    (hd : ∀ D H1, Same H H1 → H D = none → H1 D = some (.lst ((ns.filter f).map V.int)) → Q (.ref D) H1) : ∀ D, H D = none → ∃ W : Nat → Nat → Hp → Prop, (∃ m, W 0 m (upd H D (.lst []))) ∧ ∀ i m H, W i m H →
      (J.stop i H ∧ Q (.ref D) H) ∨ (J.go i H ∧ ∃ Nx : Hp → Prop, (∀ H', Nx H' → ∃ m', m' < m ∧ W (i + 1) m' H') ∧ ∀ x H', J.yld i H x H' → gName j x (wipe σ [j]) H' fun σ2 H2 => wipe σ2 [j] = wipe σ [j] ∧ tt σ2 H2 fun b H3 =>
        if b = true then te σ2 H3 fun y H4 => ∃ acc, H4 D = some (.lst acc) ∧ acc.length < sizeLine ∧ Nx (upd H4 D (.lst (acc ++ [y]))) else Nx H3) := by
  intro D hD
  refine lc_it w (fun i H1 => Same H H1 ∧ H1 D = some (.lst (((ns.take i).filter f).map V.int))) ⟨same_new hD, upd_same⟩ (fun i H1 _ h => hG H1 h.1) ?_ ?_
  · rintro i x H1 H2 hi ⟨s1, e1⟩ ⟨e0, hx⟩
    subst e0
    obtain ⟨z, hz, rfl⟩ := map_at hx
    refine ⟨wipe1, ht z _ (List.mem_of_getElem? hz) s1 _ fun H3 s3 => ?_⟩
    have e3 := s3 _ _ e1
    by_cases c : f z = true
    · rw [if_pos c]
      refine hs z H3 _ ⟨_, e3, ?_, fun b o e => kpO (s3 _ _ (s1 b o e)) (ne_of_none e hD), ?_⟩
      · rw [List.length_map]
        refine small_lt (Nat.lt_of_le_of_lt (List.length_filter_le _ _) ?_)
        rw [List.length_map] at hi
        rw [List.length_take]; omega
      · rw [upd_same, filter_more hz, if_pos c, List.map_append]; rfl
    · rw [if_neg c]
      refine ⟨s1.trans s3, ?_⟩
      rw [filter_more hz, if_neg c, List.append_nil]; exact e3
  · rintro H1 ⟨s1, e1⟩
    rw [List.length_map, List.take_length] at e1
    exact hd D H1 s1 hD e1
theorem lcF2 {ns : List Int} (hv : σ[i]? = some (some x)) (hx : Sk K H x (ns.map V.int)) (f : Int → Bool) (few : ns.length ≤ 1000)
    (ht : ∀ z H1, z ∈ ns → Same H H1 → ∀ R : Bool → Hp → Prop, (∀ H2, Same H1 H2 → R (f z) H2) → tt ((σ.set j none).set j (some (.int z))) H1 R)
    (hs : ∀ z H1, ∀ P : VK, P (.int z) H1 → te ((σ.set j none).set j (some (.int z))) H1 P)
    (hd : ∀ D H1, Same H H1 → H D = none → H1 D = some (.lst ((ns.filter f).map V.int)) → Q (.ref D) H1) : tLc (fun σ H R => iList K (tVar i) σ H R ∨ iTup K (tVar i) σ H R) (gName j) tt te [j] σ H Q := by
  obtain ⟨a, rfl, h | h⟩ := hx
  · exact .inl ⟨_, hv, a, rfl, ⟨_, h⟩, lcFW walk_list (fun H' s => s.seq h) f few ht hs hd⟩
  · exact .inr ⟨_, hv, a, rfl, ⟨_, h⟩, lcFW walk_tup (fun H' s => Jv.Same.sqT s h) f few ht hs hd⟩
end
end Jv

/-! ### comprehensions whose results are lists of the program's own -/
namespace Jv
open PySem PySem.Spec PyProof.Rows L2
section
variable {K : PySem.W.Frag} {σ : L2.St} {H : Hp} {te te0 : TE} {tt : TT} {Q : VK} {xs : List V} {j n : Nat} {x : V} {J : It} {G : Hp → Prop} {Y : Nat → Hp → V → Hp → Prop} {Fx : Nat → V → Prop} {F : Nat → List V}
theorem lcOwnD (w : Walk J n G Y) (hG : ∀ H', Same H H' → G H') (hy : ∀ i H x H', i < n → Y i H x H' → H' = H ∧ Fx i x) (F : Nat → List V) (few : n ≤ 1000)
    (hs : ∀ i v D H1, i < n → Fx i v → Same H H1 → H D = none → ∀ P : VK, (∀ t H2, H1 t = none → Same H1 H2 → H2 t = some (.lst (F i)) → P (.ref t) H2) → te ((σ.set j none).set j (some v)) H1 P)
    (hd : ∀ D (As : List Addr) H1, Same H H1 → H D = none → As.length = n → As.Nodup → D ∉ As → (∀ b ∈ As, H b = none) → H1 D = some (.lst (As.map V.ref)) → (∀ (k : Nat) b, As[k]? = some b → H1 b = some (.lst (F k))) → Q (.ref D) H1) : ∀ D, H D = none → ∃ W : Nat → Nat → Hp → Prop, (∃ m, W 0 m (upd H D (.lst []))) ∧ ∀ i m H, W i m H →
      (J.stop i H ∧ Q (.ref D) H) ∨ (J.go i H ∧ ∃ Nx : Hp → Prop, (∀ H', Nx H' → ∃ m', m' < m ∧ W (i + 1) m' H') ∧ ∀ x H', J.yld i H x H' → gName j x (wipe σ [j]) H' fun σ2 H2 => wipe σ2 [j] = wipe σ [j] ∧ tYes σ2 H2 fun b H3 =>
        if b = true then te σ2 H3 fun y H4 => ∃ acc, H4 D = some (.lst acc) ∧ acc.length < sizeLine ∧ Nx (upd H4 D (.lst (acc ++ [y]))) else Nx H3) := by
  intro D hD
  refine lc_it w (fun i H1 => Same H H1 ∧ ∃ As : List Addr, As.length = i ∧ As.Nodup ∧ D ∉ As ∧ (∀ b ∈ As, H b = none) ∧ H1 D = some (.lst (As.map V.ref)) ∧ ∀ (k : Nat) b, As[k]? = some b → H1 b = some (.lst (F k)))
    ⟨same_new hD, [], rfl, List.nodup_nil, List.not_mem_nil, fun b m => (by cases m), upd_same, fun k b e => (by simp at e)⟩ (fun i H1 _ h => hG H1 h.1) ?_ ?_
  · rintro i x H1 H2 hi ⟨s1, As, e0, nd, nD, hn, e1, al⟩ hx
    obtain ⟨e2, hF⟩ := hy i _ _ _ hi hx
    subst e2
    refine ⟨wipe1, ?_⟩
    refine r_yes ?_
    refine r_true (c := true) rfl ?_
    refine hs i x D _ hi hF s1 hD _ fun t H3 ht s3 et => ?_
    have htA : t ∉ As := fun m => by
      obtain ⟨k, hk, e⟩ := List.getElem_of_mem m
      have := al k t (by rw [List.getElem?_eq_getElem hk, e])
      rw [ht] at this; cases this
    have htD : t ≠ D := fun e => by rw [e, e1] at ht; cases ht
    have htH : H t = none := s1.free ht
    refine ⟨_, s3 _ _ e1, ?_, fun b o e => kpO (s3 _ _ (s1 b o e)) (ne_of_none e hD), As ++ [t], by rw [List.length_append, e0]; rfl, ?_, ?_, ?_, by rw [upd_same, List.map_append]; rfl, ?_⟩
    · rw [List.length_map, e0]; exact small_lt (by omega)
    · refine List.nodup_append.mpr ⟨nd, by simp, fun a ha b hb => ?_⟩
      rw [List.mem_singleton.mp hb]
      exact fun e => htA (e ▸ ha)
    · intro m
      rcases List.mem_append.mp m with m | m
      · exact nD m
      · exact htD (List.mem_singleton.mp m).symm
    · intro b m
      rcases List.mem_append.mp m with m | m
      · exact hn b m
      · rw [List.mem_singleton.mp m]; exact htH
    · intro k b e
      have nb : b ≠ D := fun eb => by
        rw [eb] at e
        rcases List.mem_append.mp (List.mem_of_getElem? e) with m | m
        · exact nD m
        · exact htD (List.mem_singleton.mp m).symm
      rw [upd_ne nb]
      by_cases hk : k < As.length
      · rw [List.getElem?_append_left hk] at e
        exact s3 _ _ (al k b e)
      · have h2 := (List.getElem?_eq_some_iff.mp e).1
        rw [List.length_append] at h2
        have h3 : k = As.length := by simp at h2; omega
        subst h3
        rw [List.getElem?_append_right (Nat.le_refl _), Nat.sub_self] at e
        cases e
        rw [e0]; exact et
  · rintro H1 ⟨s1, As, e0, nd, nD, hn, e1, al⟩
    exact hd D As H1 s1 hD e0 nd nD hn e1 al
/-- over what an expression gives -/
theorem lcOwn (hit : ∀ P : VK, P x H → te0 σ H P) (hx : Sk K H x xs) (F : Nat → List V) (few : xs.length ≤ 1000)
    (hs : ∀ i v D H1, i < xs.length → xs[i]? = some v → Same H H1 → H D = none → ∀ P : VK, (∀ t H2, H1 t = none → Same H1 H2 → H2 t = some (.lst (F i)) → P (.ref t) H2) → te ((σ.set j none).set j (some v)) H1 P)
    (hd : ∀ D (As : List Addr) H1, Same H H1 → H D = none → As.length = xs.length → As.Nodup → D ∉ As → (∀ b ∈ As, H b = none) → H1 D = some (.lst (As.map V.ref)) → (∀ (k : Nat) b, As[k]? = some b → H1 b = some (.lst (F k))) → Q (.ref D) H1) : tLc (fun σ H R => iList K te0 σ H R ∨ iTup K te0 σ H R) (gName j) tYes te [j] σ H Q := by
  obtain ⟨a, rfl, h | h⟩ := hx
  · exact .inl (hit _ ⟨a, rfl, ⟨xs, h⟩, lcOwnD walk_list (fun H' s => s.seq h) yat F few hs hd⟩)
  · exact .inr (hit _ ⟨a, rfl, ⟨xs, h⟩, lcOwnD walk_tup (fun H' s => Jv.Same.sqT s h) yat F few hs hd⟩)
theorem lcOwn2 {i : Nat} (hv : σ[i]? = some (some x)) (hx : Sk K H x xs) (F : Nat → List V) (few : xs.length ≤ 1000)
    (hs : ∀ i v D H1, i < xs.length → xs[i]? = some v → Same H H1 → H D = none → ∀ P : VK, (∀ t H2, H1 t = none → Same H1 H2 → H2 t = some (.lst (F i)) → P (.ref t) H2) → te ((σ.set j none).set j (some v)) H1 P)
    (hd : ∀ D (As : List Addr) H1, Same H H1 → H D = none → As.length = xs.length → As.Nodup → D ∉ As → (∀ b ∈ As, H b = none) → H1 D = some (.lst (As.map V.ref)) → (∀ (k : Nat) b, As[k]? = some b → H1 b = some (.lst (F k))) → Q (.ref D) H1) : tLc (fun σ H R => iList K (tVar i) σ H R ∨ iTup K (tVar i) σ H R) (gName j) tYes te [j] σ H Q :=
  lcOwn (fun P hP => ⟨_, hv, hP⟩) hx F few hs hd
end
/-- data, item by item -/
theorem dvAll_mk {K : PySem.W.Frag} {H : Hp} : ∀ {vs : List V} {ds : List PyData}, vs.length = ds.length → (∀ (i : Nat) v d, vs[i]? = some v → ds[i]? = some d → Dv K H v d) → DvAll K H vs ds
  | [], [], _, _ => .nil
  | v :: vs, d :: ds, hl, h => .cons (h 0 v d rfl rfl) (dvAll_mk (by simpa using hl) fun i v d h1 h2 => h (i + 1) v d h1 h2)
/-- what each item of a row of rows holds -/
theorem rows_of {K : PySem.W.Frag} {H : Hp} {vs : List V} {ds : List PyData} (h : DvAll K H vs ds) (hs : ∀ d ∈ ds, (seqD d).isSome = true) : ∃ F : Nat → List V, ∀ (i : Nat) v d, vs[i]? = some v → ds[i]? = some d → Sk K H v (F i) ∧ ∃ es, seqD d = some es ∧ DvAll K H (F i) es := by
  have h1 : ∀ i : Nat, ∃ X : List V, ∀ v d, vs[i]? = some v → ds[i]? = some d → Sk K H v X ∧ ∃ es, seqD d = some es ∧ DvAll K H X es := fun i => by
    cases e : vs[i]? with
    | none => exact ⟨[], fun v d h _ => by cases h⟩
    | some v =>
      obtain ⟨d, e2, hd⟩ := h.at e
      obtain ⟨es, e3⟩ := Option.isSome_iff_exists.mp (hs d (List.mem_of_getElem? e2))
      obtain ⟨X, k1, k2⟩ := hd.sk e3
      refine ⟨X, fun v' d' h1 h2 => ?_⟩
      cases h1
      rw [e2] at h2; cases h2
      exact ⟨k1, es, e3, k2⟩
  exact ⟨fun i => Classical.choose (h1 i), fun i => Classical.choose_spec (h1 i)⟩
end Jv

/-! ### several except clauses, some with a name -/
namespace Jv
open PySem PySem.Spec PyProof.Rows L2
/-- a suite with the exception's name at slot i -/
def sNamed (i : Nat) (ts : Addr → Value → Option Addr → TS) : Addr → Value → Option Addr → TS := fun e k d D τ H =>
  ts e k d { nx := fun ρ G => D.nx (ρ.set i none) G, rt := D.rt, bk := fun ρ G => D.bk (ρ.set i none) G, ct := fun ρ G => D.ct (ρ.set i none) G } (τ.set i (some (.ref e))) H
inductive Cls2 (X : Cx) : List ExceptHandler → List (Value × (Addr → Value → Option Addr → TS)) → Prop
  | nil : Cls2 X [] []
  | bare {nm : Str} {k : Value} {ts : Addr → Value → Option Addr → TS} {st : Stmt} {sts : List Stmt} {p1 p2 : Pos} {hl : List ExceptHandler} {wl : List (Value × (Addr → Value → Option Addr → TS))} (hk : Names X nm k)
      (su : ∀ (e : Addr) (ob : Obj) (kd : Value) (d : Option Addr) (pq : List (Addr × Obj)), Zc kd d ob → (∃ fs, ob.data = .fields fs) → PSs (X.suite e ((e, ob) :: pq)) (st :: sts) (ts e kd d)) (more : Cls2 X hl wl) :
      Cls2 X (.ExceptHandler (some (.Name nm p1)) none (st :: sts) p2 :: hl) ((k, ts) :: wl)
  | named {nm n : Str} {i : Nat} {k : Value} {ts : Addr → Value → Option Addr → TS} {st : Stmt} {sts : List Stmt} {p1 p2 : Pos} {hl : List ExceptHandler} {wl : List (Value × (Addr → Value → Option Addr → TS))} (nd : X.N.Nodup) (ix : X.N[i]? = some n) (lc : X.env.kindOf n = some .local) (hk : Names X nm k)
      (su : ∀ (e : Addr) (ob : Obj) (kd : Value) (d : Option Addr) (pq : List (Addr × Obj)), Zc kd d ob → (∃ fs, ob.data = .fields fs) → PSs (X.suite e ((e, ob) :: pq)) (st :: sts) (ts e kd d)) (more : Cls2 X hl wl) :
      Cls2 X (.ExceptHandler (some (.Name nm p1)) (some n) (st :: sts) p2 :: hl) ((k, sNamed i ts) :: wl)
section
variable {X : Cx} {body : List Stmt} {h1 : ExceptHandler} {hl : List ExceptHandler} {wl : List (Value × (Addr → Value → Option Addr → TS))} {pos : Pos} {tb : WX → TS} {Wo : WX}
theorem ps_tryMix (hst : X.stack = X.env :: X.outer) (hfr0 : X.env.frame = some X.env.locals) (tk : Takes X Wo) (hh : Cls2 X (h1 :: hl) wl)
    (hb : ∀ (W : WX) (pq : List (Addr × Obj)) (xe : Value → Shared → Prop), Takes (X.tr pq xe) W → PassesOwn (model X.prog X.w) X.A X.env xe → PSs (X.tr pq xe) body (tb W)) :
    PS X (.Try body (h1 :: hl) [] [] pos) (fun D τ H => tb (wMany X.K Wo D wl) D τ H) := by
  refine ⟨fun pins s τ H D I wish => ?_⟩
  have iok := I.ok
  have afr : X.A.frames = some (X.env :: X.outer) := by rw [iok.frames, hst]
  refine wpAny_Try_except ?_
  refine wpAny_mono ((hb (wMany X.K Wo D wl) (X.pn ++ pins) (fun u r1 => wpAny (model X.prog X.w) X.A (noteFrame u X.env) (fun _ r2 => wpAny (model X.prog X.w) X.A (setFlight u none) (fun _ r3 =>
    wpAny (model X.prog X.w) X.A (handleBy u X.env (h1 :: hl)) (SP X pins D) X.xe r3) X.xe r2) X.xe r1) (fun u t xx => ?_) PassesOwn.looking).run [] s τ H D (I.toTry _) wish) (fun f t hsp => ?_) (fun u t he => he)
  · obtain ⟨e, B, sI, pq, ρ, G, kd, d, rfl, J0, nb, up, sky0, ne, os, ag, w⟩ := xx
    have J : Inv X pins ρ G sI := J0.ofTry iok
    have sky : Sky B (X.env :: X.outer) e (Zc kd d) X.env.locals t.heap := by rw [← hst]; exact sky0
    show wpAny (model X.prog X.w) X.A (noteFrame (.ref e) X.env) _ _ _
    refine Sky.land Zc.steady afr hfr0 sky fun g3 fl3 up3 => ?_
    have J3 : Inv X pins ρ G { t with heap := g3 } := J.landed nb fl3.1 (up.trans up3) os ag
    obtain ⟨ob3, fs3, at3, z3, dt3⟩ := fl3.there
    have notIn : e ∉ frs (X.env :: X.outer) := fun m => by
      obtain ⟨_, ob, at', hn⟩ := fl3.2.2.1.mem m
      rw [at3] at at'; cases at'
      exact hn _ dt3
    have nLoc : e ≠ X.env.locals := fun z => notIn (List.mem_filterMap.mpr ⟨X.env, List.mem_cons_self, by rw [hfr0, z]⟩)
    have nFs : e ∉ X.fs := fun m => by
      obtain ⟨v, hv, q⟩ := List.mem_filterMap.mp m
      exact notIn (List.mem_filterMap.mpr ⟨v, List.mem_cons_of_mem _ hv, q⟩)
    have S3 := J3.suite at3 dt3 ne nLoc nFs
    have look : PySem.W.Looks (model X.prog X.w) g3 (typeOf (.ref e)) kd := fun A Q E r k q => wpAny_typeOf_ref (k _ _ at3) (by rw [z3.1]; exact q)
    have test : ∀ {nm : Str} {p1 : Pos} {k : Value} {Q : Value → Shared → Prop} {E : Value → Shared → Prop}, Names X nm k → Q k { t with heap := g3 } → wpAny (model X.prog X.w) (X.A.mark (some (.ref e))) (eval (.Name nm p1) X.env) Q E { t with heap := g3 } := fun {nm p1 k Q E} hk q => by
      obtain ⟨hg, hdb, hm | ⟨hm, hv, hnn⟩⟩ := hk
      · exact ld_glob (X := X.suite e ((e, ob3) :: (X.pn ++ pins))) S3 hg hm q hdb
      · exact ld_blt (X := X.suite e ((e, ob3) :: (X.pn ++ pins))) S3 hg hm hv q hnn hdb
    have all : ∀ {hl2 : List ExceptHandler} {wl2 : List (Value × (Addr → Value → Option Addr → TS))}, Cls2 X hl2 wl2 → wMany X.K Wo D wl2 kd d ρ G →
        wpAny (model X.prog X.w) X.A (handleBy (.ref e) X.env hl2) (SP X pins D) X.xe { t with heap := g3 } := by
      intro hl2 wl2 hc
      induction hc with
      | nil =>
        intro w
        refine wpAny_handleBy_nil ?_
        obtain ⟨k1, k2, k3, ob, fs, T, oT, us, he, hz, hd, hh1, hr⟩ := id fl3
        unfold PySem.passOn
        refine wpAny_bind (wpAny_field he hd hh1 ?_)
        rw [if_neg (show ¬ ((Value.ref T == Value.none) = true) from by simp)]
        have fin : wpAny (model X.prog X.w) X.A (setFlight (.ref e) X.env.frame) (fun _ r4 => wpAny (model X.prog X.w) X.A (throw (.ref e) : Sem Flow) (SP X pins D) X.xe r4) X.xe { t with heap := g3 } := by
          rw [hfr0]
          refine HandSPX.setFlight_upZ fl3 fun g4 hg4 up4 => wpAny_throw (tk _ _ ?_)
          exact ⟨e, B, sI, pins, ρ, G, kd, d, rfl, J, nb, (up.trans up3).trans up4, .inr (.inr (by rw [hst]; exact hg4)), ne, os, ag, w⟩
        first
          | exact wpAny_bind (wpAny_pure (wpAny_bind fin))
          | exact wpAny_bind fin
      | @bare nm k ts st sts p1 p2 hl3 wl3 hk su more ih =>
        intro w
        obtain ⟨b, hb1, yes, no⟩ := w
        refine wpAny_handleBy_cons (codeAny_handlers_test ?_) (by intro q; cases q)
        refine test hk ((PySem.W.exm_one (M := model X.prog X.w) (J3.kIn) look hb1).here ?_)
        cases b with
        | true =>
          refine codeAny_handlers_suite ?_
          refine HandSPX.lands_againZ fl3 fun g4 fl4 up4 => ?_
          have J4 : Inv X pins ρ G { t with heap := g4 } := J.landed nb fl4.1 ((up.trans up3).trans up4) os ag
          obtain ⟨ob4, fs4, at4, z4, dt4⟩ := fl4.there
          have S4 := J4.suite at4 dt4 ne nLoc nFs
          refine wpAny_mono ((su e ob4 kd d (X.pn ++ pins) z4 ⟨_, dt4⟩).run [] _ _ G _ S4 (yes rfl e ne)) (fun f r6 hsp => ?_) (fun _ _ z => False.elim z)
          cases f with
          | ret u =>
            obtain ⟨v6, τ6, G6, S6, rel6, q6⟩ := hsp
            exact ⟨_, _, _, S6.unsuite iok, rel6, q6⟩
          | _ =>
            obtain ⟨τ6, G6, S6, q6⟩ := hsp
            exact ⟨_, _, S6.unsuite iok, q6⟩
        | false =>
          show wpAny _ X.A (handleBy (.ref e) X.env hl3) _ _ _
          exact ih (no rfl)
      | @named nm n i k ts st sts p1 p2 hl3 wl3 nd ix lc hk su more ih =>
        intro w
        obtain ⟨b, hb1, yes, no⟩ := w
        refine wpAny_handleBy_cons (codeAny_handlers_test ?_) (by intro q; cases q)
        refine test hk ((PySem.W.exm_one (M := model X.prog X.w) (J3.kIn) look hb1).here ?_)
        cases b with
        | true =>
          refine codeAny_handlers_suite_as ?_
          refine HandSPX.lands_againZ fl3 fun g4 fl4 up4 => ?_
          have J4 : Inv X pins ρ G { t with heap := g4 } := J.landed nb fl4.1 ((up.trans up3).trans up4) os ag
          obtain ⟨ob4, fs4, at4, z4, dt4⟩ := fl4.there
          have S4 := J4.suite at4 dt4 ne nLoc nFs
          refine store_ok (X := X.suite e ((e, ob4) :: (X.pn ++ pins))) (v := .ref e) S4 nd ix (.inl lc) rfl (fun r5 S5 => ?_) (.inr lc)
          refine wpAny_mono ((su e ob4 kd d (X.pn ++ pins) z4 ⟨_, dt4⟩).run [] r5 _ G _ S5 (yes rfl e ne)) (fun f r6 hsp => ?_) (fun _ _ z => False.elim z)
          have goes : ∀ {τ6 : L2.St} {G6 : Hp} {Q : Shared → Prop}, Inv (X.suite e ((e, ob4) :: (X.pn ++ pins))) [] τ6 G6 r6 → (∀ r7, Inv X pins (τ6.set i none) G6 r7 → Q r7) →
              wpAny (model X.prog X.w) X.A (do bindName X.env n .none; unbindBehindTheSuite X.env n p2) (fun _ r7 => Q r7) X.xe r6 := fun {τ6 G6 Q} S6 hq => gone_ok (S6.unsuite iok) nd ix lc hq
          cases f with
          | ret u =>
            obtain ⟨v6, τ6, G6, S6, rel6, q6⟩ := hsp
            exact goes S6 fun r7 J7 => ⟨_, _, _, J7, rel6, q6⟩
          | _ =>
            obtain ⟨τ6, G6, S6, q6⟩ := hsp
            exact goes S6 fun r7 J7 => ⟨_, _, J7, q6⟩
        | false =>
          show wpAny _ X.A (handleBy (.ref e) X.env hl3) _ _ _
          exact ih (no rfl)
    exact all hh w
  · cases f with
    | next =>
      obtain ⟨ρ, G, J0, q⟩ := hsp
      exact wpAny_execs_nil ⟨ρ, G, J0.ofTry iok, q⟩
    | ret u =>
      obtain ⟨v, ρ, G, J0, rel, q⟩ := hsp
      exact ⟨v, ρ, G, J0.ofTry iok, rel, q⟩
    | _ =>
      obtain ⟨ρ, G, J0, q⟩ := hsp
      exact ⟨ρ, G, J0.ofTry iok, q⟩
end
end Jv

/-! ### trees of lists that are new: each list at its own place, so that one may change -/
namespace Jv
open PySem PySem.Spec PyProof.Rows L2
mutual
inductive Ft (K : PySem.W.Frag) (H : Hp) : V → PyData → List Addr → Prop
  | non : Ft K H .non .none []
  | bl (b : Bool) : Ft K H (.bl b) (.bool b) []
  | int (i : Int) : Ft K H (.int i) (.int i) []
  | str (x : Str) : Ft K H (.str x) (.str x) []
  | lst {a : Addr} {xs : List V} {ds : List PyData} {A : List Addr} : H a = some (.lst xs) → FtAll K H xs ds A → a ∉ A → Ft K H (.ref a) (.list ds) (a :: A)
inductive FtAll (K : PySem.W.Frag) (H : Hp) : List V → List PyData → List Addr → Prop
  | nil : FtAll K H [] [] []
  | cons {v : V} {vs : List V} {d : PyData} {ds : List PyData} {A B : List Addr} : Ft K H v d A → FtAll K H vs ds B → (∀ a ∈ A, a ∉ B) → FtAll K H (v :: vs) (d :: ds) (A ++ B)
end
mutual
theorem Ft.dv {K : PySem.W.Frag} {H : Hp} : ∀ {v : V} {d : PyData} {A : List Addr}, Ft K H v d A → Dv K H v d
  | _, _, _, .non => .non
  | _, _, _, .bl b => .bl b
  | _, _, _, .int i => .int i
  | _, _, _, .str x => .str x
  | _, _, _, .lst h q _ => .lst h (FtAll.dv q)
theorem FtAll.dv {K : PySem.W.Frag} {H : Hp} : ∀ {vs : List V} {ds : List PyData} {A : List Addr}, FtAll K H vs ds A → DvAll K H vs ds
  | _, _, _, .nil => .nil
  | _, _, _, .cons a b _ => .cons (Ft.dv a) (FtAll.dv b)
end
mutual
/-- what is kept at the tree's own places keeps the tree -/
theorem Ft.keep {K : PySem.W.Frag} {H H' : Hp} : ∀ {v : V} {d : PyData} {A : List Addr}, Ft K H v d A → (∀ a ∈ A, ∀ o, H a = some o → H' a = some o) → Ft K H' v d A
  | _, _, _, .non, _ => .non
  | _, _, _, .bl b, _ => .bl b
  | _, _, _, .int i, _ => .int i
  | _, _, _, .str x, _ => .str x
  | _, _, _, .lst h q n, s => .lst (s _ List.mem_cons_self _ h) (FtAll.keep q fun a m => s a (List.mem_cons_of_mem _ m)) n
theorem FtAll.keep {K : PySem.W.Frag} {H H' : Hp} : ∀ {vs : List V} {ds : List PyData} {A : List Addr}, FtAll K H vs ds A → (∀ a ∈ A, ∀ o, H a = some o → H' a = some o) → FtAll K H' vs ds A
  | _, _, _, .nil, _ => .nil
  | _, _, _, .cons a b n, s => .cons (Ft.keep a fun c m => s c (List.mem_append_left _ m)) (FtAll.keep b fun c m => s c (List.mem_append_right _ m)) n
end
section
variable {K : PySem.W.Frag} {H H' : Hp}
theorem FtAll.ints : ∀ ns : List Int, FtAll K H (ns.map V.int) (ns.map PyData.int) []
  | [] => .nil
  | a :: r => by
    have h := FtAll.cons (A := []) (B := []) (Ft.int (K := K) (H := H) a) (FtAll.ints r) (fun _ m => nomatch m)
    exact h
theorem FtAll.app : ∀ {vs ws : List V} {ds es : List PyData} {A B : List Addr}, FtAll K H vs ds A → FtAll K H ws es B → (∀ a ∈ A, a ∉ B) → FtAll K H (vs ++ ws) (ds ++ es) (A ++ B)
  | _, _, _, _, _, _, .nil, q, _ => q
  | _, ws, _, es, _, B, .cons (A := A1) (B := B1) a b n, q, dj => by
    rw [List.cons_append, List.cons_append, List.append_assoc]
    refine .cons a (FtAll.app b q fun c m => dj c (List.mem_append_right _ m)) fun c m => ?_
    intro m2
    rcases List.mem_append.mp m2 with h | h
    · exact n c m h
    · exact dj c (List.mem_append_left _ m) h
theorem FtAll.len : ∀ {vs : List V} {ds : List PyData} {A : List Addr}, FtAll K H vs ds A → vs.length = ds.length
  | _, _, _, .nil => rfl
  | _, _, _, .cons _ b _ => congrArg (· + 1) (FtAll.len b)
/-- one of them, and what a change within it makes of all -/
theorem FtAll.chg : ∀ {vs : List V} {ds : List PyData} {A : List Addr} {i : Nat} {v : V}, FtAll K H vs ds A → vs[i]? = some v → ∃ d B, ds[i]? = some d ∧ Ft K H v d B ∧ (∀ a ∈ B, a ∈ A) ∧
    (∀ w e H', (∀ a ∈ A, a ∉ B → ∀ o, H a = some o → H' a = some o) → Dv K H' w e → DvAll K H' (vs.set i w) (ds.set i e))
  | _, _, _, _, _, .nil, e => by simp at e
  | _, _, _, 0, v, .cons (A := A1) (B := B1) a b n, e => by
    simp at e; subst e
    refine ⟨_, A1, rfl, a, fun c m => List.mem_append_left _ m, fun w e H' s dv => ?_⟩
    exact .cons dv (b.keep fun c m => s c (List.mem_append_right _ m) fun m2 => n c m2 m).dv
  | _, _, _, i + 1, v, .cons (A := A1) (B := B1) a b n, e => by
    simp at e
    obtain ⟨d, B, h1, h2, h3, h4⟩ := FtAll.chg b e
    refine ⟨d, B, h1, h2, fun c m => List.mem_append_right _ (h3 c m), fun w e H' s dv => ?_⟩
    refine .cons (a.keep fun c m => s c (List.mem_append_left _ m) fun m2 => n c m (h3 c m2)).dv (h4 w e H' (fun c m m2 => s c (List.mem_append_right _ m) m2) dv)
mutual
theorem Ft.held : ∀ {v : V} {d : PyData} {A : List Addr}, Ft K H v d A → ∀ a ∈ A, ∃ xs, H a = some (.lst xs)
  | _, _, _, .lst h q _, a, m => by
    rcases List.mem_cons.mp m with rfl | m
    · exact ⟨_, h⟩
    · exact FtAll.held q a m
theorem FtAll.held : ∀ {vs : List V} {ds : List PyData} {A : List Addr}, FtAll K H vs ds A → ∀ a ∈ A, ∃ xs, H a = some (.lst xs)
  | _, _, _, .cons x y _, a, m => by
    rcases List.mem_append.mp m with m | m
    · exact Ft.held x a m
    · exact FtAll.held y a m
end
theorem Ft.same {v : V} {d : PyData} {A : List Addr} (h : Ft K H v d A) (s : Same H H') : Ft K H' v d A := h.keep fun a _ o e => s a o e
end
section
variable {K : PySem.W.Frag} {σ : L2.St} {H : Hp} {te te0 : TE} {Q : VK} {xs : List V} {es : List PyData} {j i n : Nat} {x : V} {J : It} {G : Hp → Prop} {Y : Nat → Hp → V → Hp → Prop} {F : Nat → V → Prop}
theorem lcNew (w : Walk J n G Y) (hG : ∀ H', Same H H' → G H') (hy : ∀ i H x H', i < n → Y i H x H' → H' = H ∧ F i x) (es : List PyData) (hl : es.length = n) (few : n ≤ 1000)
    (hs : ∀ i v e D H1, i < n → F i v → es[i]? = some e → Same H H1 → H D = none → (∃ o, H1 D = some o) → ∀ P : VK, (∀ y A H2, Same H1 H2 → Ft K H2 y e A → (∀ a ∈ A, H1 a = none) → P y H2) → te ((σ.set j none).set j (some v)) H1 P)
    (hd : ∀ D A H1, Same H H1 → Ft K H1 (.ref D) (.list es) A → (∀ a ∈ A, H a = none) → Q (.ref D) H1) : ∀ D, H D = none → ∃ W : Nat → Nat → Hp → Prop, (∃ m, W 0 m (upd H D (.lst []))) ∧ ∀ i m H, W i m H →
      (J.stop i H ∧ Q (.ref D) H) ∨ (J.go i H ∧ ∃ Nx : Hp → Prop, (∀ H', Nx H' → ∃ m', m' < m ∧ W (i + 1) m' H') ∧ ∀ x H', J.yld i H x H' → gName j x (wipe σ [j]) H' fun σ2 H2 => wipe σ2 [j] = wipe σ [j] ∧ tYes σ2 H2 fun b H3 =>
        if b = true then te σ2 H3 fun y H4 => ∃ acc, H4 D = some (.lst acc) ∧ acc.length < sizeLine ∧ Nx (upd H4 D (.lst (acc ++ [y]))) else Nx H3) := by
  intro D hD
  refine lc_it w (fun i H1 => Same H H1 ∧ ∃ ys A, H1 D = some (.lst ys) ∧ FtAll K H1 ys (es.take i) A ∧ ∀ a ∈ A, H a = none ∧ a ≠ D) ⟨same_new hD, [], [], upd_same, .nil, fun _ m => nomatch m⟩ (fun i H1 _ h => hG H1 h.1) ?_ ?_
  · rintro i x H1 H2 hi ⟨s1, ys, A, e1, al, fr⟩ hx
    obtain ⟨e0, hF⟩ := hy i _ _ _ hi hx
    subst e0
    refine ⟨wipe1, ?_⟩
    refine r_yes ?_
    refine r_true (c := true) rfl ?_
    have hie : i < es.length := by omega
    have he := List.getElem?_eq_getElem hie
    refine hs i x _ D _ hi hF he s1 hD ⟨_, e1⟩ _ fun y B H3 s3 dy nB => ⟨_, s3 _ _ e1, ?_, ?_, _, A ++ B, upd_same, ?_, ?_⟩
    · rw [al.len, List.length_take]; exact small_lt (by omega)
    · intro b o e; exact kpO (s3 _ _ (s1 b o e)) (ne_of_none e hD)
    · rw [take_more he]
      have nD : ∀ a ∈ B, a ≠ D := fun a m z => by have := nB a m; rw [z, e1] at this; cases this
      have q : FtAll K (upd H3 D (.lst (ys ++ [y]))) [y] [es[i]] B := by
        have q2 : Ft K (upd H3 D (.lst (ys ++ [y]))) y es[i] B := dy.keep fun a m o e => kpO e (nD a m)
        have q3 := FtAll.cons q2 (FtAll.nil (K := K)) (fun a _ => by simp)
        rw [List.append_nil] at q3
        exact q3
      refine FtAll.app (al.keep fun a m o e => kpO (s3 _ _ e) (fr a m).2) q fun a m m2 => ?_
      obtain ⟨zs, hz⟩ := al.held a m
      rw [nB a m2] at hz; cases hz
    · intro a m
      rcases List.mem_append.mp m with m | m
      · exact fr a m
      · have h1 := nB a m
        refine ⟨?_, fun z => by rw [z, e1] at h1; cases h1⟩
        cases e : H a with
        | none => rfl
        | some o => rw [s1 a o e] at h1; cases h1
  · rintro H1 ⟨s1, ys, A, e1, al, fr⟩
    rw [List.take_of_length_le (by omega)] at al
    exact hd D (D :: A) H1 s1 (.lst e1 al fun m => (fr D m).2 rfl) fun a m => by
      rcases List.mem_cons.mp m with rfl | m
      · exact hD
      · exact (fr a m).1
theorem lcNew2 (hv : σ[i]? = some (some x)) (hx : Sk K H x xs) (es : List PyData) (hl : es.length = xs.length) (few : xs.length ≤ 1000)
    (hs : ∀ i v e D H1, i < xs.length → xs[i]? = some v → es[i]? = some e → Same H H1 → H D = none → (∃ o, H1 D = some o) → ∀ P : VK, (∀ y A H2, Same H1 H2 → Ft K H2 y e A → (∀ a ∈ A, H1 a = none) → P y H2) → te ((σ.set j none).set j (some v)) H1 P)
    (hd : ∀ D A H1, Same H H1 → Ft K H1 (.ref D) (.list es) A → (∀ a ∈ A, H a = none) → Q (.ref D) H1) : tLc (fun σ H R => iList K (tVar i) σ H R ∨ iTup K (tVar i) σ H R) (gName j) tYes te [j] σ H Q := by
  obtain ⟨a, rfl, h | h⟩ := hx
  · exact .inl ⟨_, hv, a, rfl, ⟨xs, h⟩, lcNew walk_list (fun H' s => s.seq h) yat es hl few hs hd⟩
  · exact .inr ⟨_, hv, a, rfl, ⟨xs, h⟩, lcNew walk_tup (fun H' s => Jv.Same.sqT s h) yat es hl few hs hd⟩
end
section
variable {K : PySem.W.Frag} {g : TG} {tb : TS} {D : Ends} {σ : L2.St} {H : Hp} {xs : List V} {x : V} {i : Nat}
/-- a loop over a name that holds a list or a tuple that stays -/
theorem for_sk (hv : σ[i]? = some (some x)) (hx : Sk K H x xs) (Pv : Nat → L2.St → Hp → Prop) (h0 : Pv 0 σ H) (hl : ∀ j σ' H', Pv j σ' H' → Same H H')
    (hs : ∀ j v σ' H', xs[j]? = some v → Pv j σ' H' → g v σ' H' fun σ2 H2 => tb { D with nx := Pv (j + 1), ct := Pv (j + 1), bk := D.nx } σ2 H2) (hd : ∀ σ' H', Pv xs.length σ' H' → D.nx σ' H') :
    iList K (tVar i) σ H (fun it H1 => ∃ W : Nat → Nat → L2.St → Hp → Prop, (∃ m, W 0 m σ H1) ∧ ∀ i m σ H, W i m σ H →
      (it.stop i H ∧ D.nx σ H) ∨ (it.go i H ∧ ∃ N : L2.St → Hp → Prop, (∀ σ' H', N σ' H' → ∃ m', m' < m ∧ W (i + 1) m' σ' H') ∧ ∀ x H', it.yld i H x H' → g x σ H' fun σ2 H2 => tb { D with nx := N, ct := N, bk := D.nx } σ2 H2)) ∨
    iTup K (tVar i) σ H (fun it H1 => ∃ W : Nat → Nat → L2.St → Hp → Prop, (∃ m, W 0 m σ H1) ∧ ∀ i m σ H, W i m σ H →
      (it.stop i H ∧ D.nx σ H) ∨ (it.go i H ∧ ∃ N : L2.St → Hp → Prop, (∀ σ' H', N σ' H' → ∃ m', m' < m ∧ W (i + 1) m' σ' H') ∧ ∀ x H', it.yld i H x H' → g x σ H' fun σ2 H2 => tb { D with nx := N, ct := N, bk := D.nx } σ2 H2)) := by
  obtain ⟨a, rfl, h | h⟩ := hx
  · exact .inl ⟨_, hv, a, rfl, ⟨xs, h⟩, for_list (xs := xs) Pv h0 (fun j σ' H' _ p => (hl j σ' H' p).seq h) hs hd⟩
  · exact .inr ⟨_, hv, a, rfl, ⟨xs, h⟩, for_tup (xs := xs) Pv h0 (fun j σ' H' _ p => Jv.Same.sqT (hl j σ' H' p) h) hs hd⟩
end
section
variable {K : PySem.W.Frag} {g : TG} {tb : TS} {D : Ends} {σ : L2.St} {H H0 : Hp} {xs : List V} {x : V} {i : Nat}
/-- the same with the sequence in an earlier heap -/
theorem for_sk0 (hv : σ[i]? = some (some x)) (hx : Sk K H0 x xs) (s0 : Same H0 H) (Pv : Nat → L2.St → Hp → Prop) (h0 : Pv 0 σ H) (hl : ∀ j σ' H', Pv j σ' H' → Same H0 H')
    (hs : ∀ j v σ' H', xs[j]? = some v → Pv j σ' H' → g v σ' H' fun σ2 H2 => tb { D with nx := Pv (j + 1), ct := Pv (j + 1), bk := D.nx } σ2 H2) (hd : ∀ σ' H', Pv xs.length σ' H' → D.nx σ' H') :
    iList K (tVar i) σ H (fun it H1 => ∃ W : Nat → Nat → L2.St → Hp → Prop, (∃ m, W 0 m σ H1) ∧ ∀ i m σ H, W i m σ H →
      (it.stop i H ∧ D.nx σ H) ∨ (it.go i H ∧ ∃ N : L2.St → Hp → Prop, (∀ σ' H', N σ' H' → ∃ m', m' < m ∧ W (i + 1) m' σ' H') ∧ ∀ x H', it.yld i H x H' → g x σ H' fun σ2 H2 => tb { D with nx := N, ct := N, bk := D.nx } σ2 H2)) ∨
    iTup K (tVar i) σ H (fun it H1 => ∃ W : Nat → Nat → L2.St → Hp → Prop, (∃ m, W 0 m σ H1) ∧ ∀ i m σ H, W i m σ H →
      (it.stop i H ∧ D.nx σ H) ∨ (it.go i H ∧ ∃ N : L2.St → Hp → Prop, (∀ σ' H', N σ' H' → ∃ m', m' < m ∧ W (i + 1) m' σ' H') ∧ ∀ x H', it.yld i H x H' → g x σ H' fun σ2 H2 => tb { D with nx := N, ct := N, bk := D.nx } σ2 H2)) := by
  obtain ⟨a, rfl, h | h⟩ := hx
  · exact .inl ⟨_, hv, a, rfl, ⟨xs, s0.seq h⟩, for_list (xs := xs) Pv h0 (fun j σ' H' _ p => (hl j σ' H' p).seq h) hs hd⟩
  · exact .inr ⟨_, hv, a, rfl, ⟨xs, Jv.Same.sqT s0 h⟩, for_tup (xs := xs) Pv h0 (fun j σ' H' _ p => Jv.Same.sqT (hl j σ' H' p) h) hs hd⟩
end
/-- a tree without lists needs no list -/
theorem sqT_hide {K : PySem.W.Frag} {H : Hp} {N : List Addr} (hN : ∀ b ∈ N, ∃ ys, H b = some (.lst ys)) {a : Addr} {xs : List V} (h : SqT K H a xs) : SqT K (hide N H) a xs := by
  rcases h with (h | ⟨o, h⟩) | h
  · exact .inl (.inl (hide_at (fun m => by obtain ⟨ys, e⟩ := hN a m; rw [h] at e; cases e) h))
  · exact .inl (.inr ⟨o, hide_at (fun m => by obtain ⟨ys, e⟩ := hN a m; rw [h] at e; cases e) h⟩)
  · exact .inr h
theorem DvAll.imp {K : PySem.W.Frag} {H H' : Hp} : ∀ {vs : List V} {ds : List PyData}, DvAll K H vs ds → (∀ v d, d ∈ ds → Dv K H v d → Dv K H' v d) → DvAll K H' vs ds
  | _, _, .nil, _ => .nil
  | _, _, .cons a b, f => .cons (f _ _ List.mem_cons_self a) (DvAll.imp b fun v d m => f v d (List.mem_cons_of_mem _ m))
end Jv

/-! ### repr of a container: where no text of a container is under way (guards known) -/
namespace Jv
open PySem PySem.Spec PyProof.Rows L2
/-- a def's promise where no text of a container is under way -/
structure FnG (P : Program) (w : World) (K : PySem.W.Frag) (mg : Str → Option Value) (base : Heap) (CX : CXT) (k : Nat) (f : Addr) (fd : FuncData) (ps : List Str) (sp : Sp) : Prop where
  long : ∀ vs H Q E, sp vs H Q E → vs.length = ps.length
  goes : ∀ A outer s H args us vs Q E, A.guards = some [] → Room k A →
    Env0 P w K mg base A outer s H → BindsTo s fd args (ps.zip us) → Vals vs us → sp vs H Q E →
      codeAny (model P w) A (.call (.ref f) args) (CR CX outer P w H s Q E) s
section
variable {P : Program} {w : World} {K : PySem.W.Frag} {mg : Str → Option Value} {base : Heap} {CX : CXT} {k : Nat} {f : Addr} {fd : FuncData} {ps : List Str} {sp : Sp}
theorem FnG.of (F : FnOk P w K mg base CX k f fd ps sp) : FnG P w K mg base CX k f fd ps sp := ⟨F.len, fun A o s H a us vs Q E _ => F.run A o s H a us vs Q E⟩
/-- a def whose body may ask for the text of a container -/
theorem fun_okG {x qual : Str} {st : Stmt} {N : List Str} (F : Fun K x qual st f fd) (S : FnScope N ps (defScope st)) (hl : ∀ vs H Q E, sp vs H Q E → vs.length = ps.length)
    (body : ∀ (cdv : Value) (A : Around) (outer : List Env) (s : Shared) (H : Hp) (vs : List V) (Q : VK) (E : XK), A.guards = some [] → Room k (A.deeper (envOfC qual (defScope st) s.heap.objs.size f cdv)) → sp vs H Q E →
      ∃ t, PSs (cxOf CX0 P w K mg base N qual (defScope st) f cdv A outer s H E).nox (defBody st) t ∧ t { nx := fun _ H' => Q .non H', rt := Q } (start N vs) H) : FnG P w K mg base CX0 (k + 1) f fd ps sp := by
  obtain ⟨c1, c2, c3, c4, c5, c6, c7, c8, c9, rfl, here, rec⟩ := F.ex
  refine ⟨hl, fun A outer s H args us vs Q E gd room e0 bd rv hs => ?_⟩
  have up : ∀ b o, base.get? b = some o → s.heap.get? b = some o := fun b o q => (e0.bs b o q).1
  have kin : K.In s.heap := e0.mod.kin.keeps up
  refine codeAny_call_function room.depth (kin _ _ here) rfl S.co S.gen rfl (PySem.W.codeRec_of kin rec) (bd _ _ _ _ ?_)
  refine wpAny_newFunctionEnv_cells S.kind (fun y hy => ?_) fun env he s1 inC => ?_
  · rcases S.par y.1 (List.of_mem_zip (show (y.1, y.2) ∈ _ from hy)).1 with q | q
    · exact Or.inl q
    · exact Or.inr ⟨q, PySem.W.cellsFrom_some _ _ _ (Or.inl q)⟩
  cases he
  refine ⟨(e0.mod.nolimit.keeps up).keeps inC.toInCall.keep, codeAny_func ?_⟩
  obtain ⟨t, pt, q⟩ := body c7 A outer s H vs Q E gd (room.deeper _) hs
  refine wpAny_mono (pt.nox.run [] s1 _ H _ (inv_start S room.hd e0 (hl _ _ _ _ hs) rv inC) q) (fun fl s' z => ?_) fun _ _ z => z
  have done : ∀ (σ' : L2.St) (H' : Hp) (v : V) (u : Value), Inv (cxOf CX0 P w K mg base N qual (defScope st) f c7 A outer s H E) [] σ' H' s' → RelV v u → Q v H' → CE outer P w H s Q u s' :=
    fun σ' H' v u J r q => ⟨v, H', J.os, J.bare, J.base, J.hok, r, q⟩
  cases fl
  case ret u => exact let ⟨v, σ', H', J, r, q⟩ := z; done σ' H' v u J r q
  case next => exact let ⟨σ', H', J, q⟩ := z; done σ' H' .non .none J rfl q
  case brk => exact let ⟨_, _, _, q⟩ := z; (q : False).elim
  case cont => exact let ⟨_, _, _, q⟩ := z; (q : False).elim
end
/-! ### the text of a container -/
def rRepr (K : PySem.W.Frag) : List V → Hp → VK → Prop := fun xs H Q => ∃ a d, xs = [.ref a] ∧ Dp K H (.ref a) d ∧ d.canLay0 = true ∧ d.depth ≤ 60 ∧ d.showable = true ∧ d.shown.length ≤ sizeLine ∧ Q (.str d.shown) H
theorem call_repr {X : Cx} (hg : X.A.guards = some []) (hu : X.A.units + 64 < cLine) : CallR X (.builtin "repr") (rRepr X.K) := by
  intro pins s σ H xs us Q I r h
  obtain ⟨a, d, rfl, dp, c1, c2, c3, c4, q⟩ := h
  obtain ⟨u, rfl, ru⟩ := r.one
  cases (show u = Value.ref a from ru)
  obtain ⟨as, rd⟩ := Dp.reads I d (.ref a) (.ref a) dp rfl
  refine repr_of_reads' rd c3 (fun z => by rw [PyData.hasDict_of_canLay d c1] at z; cases z) hg (by omega) (fun _ _ e => e) (fun h' u tk k => ?_) c4
  exact ⟨.str d.shown, H, I.kept (t' := tk) k, ⟨_, rfl⟩, q⟩
theorem gd_body {CX : CXT} {P : Program} {w : World} {K : PySem.W.Frag} {mg : Str → Option Value} {base : Heap} {N : List Str} {qual : Str} {scope : Scope} {f : Addr} {cd : Value} {A : Around} {outer : List Env} {s : Shared} {H : Hp} {E : XK} (h : A.guards = some []) :
    (cxOf CX P w K mg base N qual scope f cd A outer s H E).nox.A.guards = some [] := h
/-! ### the end of a law whose def asks for the text of a container -/
section
variable {P : Program} {w : World} {K : PySem.W.Frag} {mg mb : Str → Option Value} {CX : CXT} {k : Nat} {fa a : Addr} {fd : FuncData} {x : Str} {sp : Sp} {z : Shared} {vs : List Value} {ns : List Int}
theorem lawG (kin : K.In z.heap) (gl : z.heap.Ns mainGlobals mg) (bi : z.heap.Ns builtinsNs mb) (bb : ∀ y : Str, y ≠ "__name__" → mb y = bootBuiltins y) (nl : z.heap.NoLimit) (gn : z.gens = #[])
    (ea : z.heap.get? a = some { cls := .type "list", data := .seq vs.toArray }) (hi : IntsAre vs ns) (few : ns.length ≤ sizeLine) (room : Room k callerA)
    (F : ∀ base : Heap, K.In base → base.Ns mainGlobals mg → FnG P w K mg base CX k fa fd [x] sp) (bd : ∀ (s : Shared) (u : Value), BindsTo s fd ⟨[u], []⟩ [(x, u)])
    (says : ∀ H : Hp, Only H → SqL K H a (ns.map V.int) → sp [.ref a] H (fun v _ => v = .bl true) fun _ _ _ => False) (quiet : ∀ H e s', CX [] H z (fun _ _ _ => False) e s' → False) :
    codeAny (model P w) callerA (.call (.ref fa) ⟨[.ref a], []⟩) (fun r s' => r = .ok (.ret (.bool true)) ∧ OldK z.heap s'.heap ∧ s'.os = z.os ∧ AllBare s'.gens) z := by
  -- H tracks the script at most, and that only where it is none of the module's objects
  have main : ∀ H : Hp, Only H → (∀ b, ¬ H b = none → b = a ∧ K.lookup a = none) → SqL K H a (ns.map V.int) → HOk P w H z.heap →
      codeAny (model P w) callerA (.call (.ref fa) ⟨[.ref a], []⟩) (fun r s' => r = .ok (.ret (.bool true)) ∧ OldK z.heap s'.heap ∧ s'.os = z.os ∧ AllBare s'.gens) z := fun H only tr sq ok => by
    have dictOff : ∀ {b : Addr} {o : Obj} {es : Array DictEntry} {n : Nat}, z.heap.get? b = some o → o.data = .dict es n → H b = none := fun {b o es n} e d =>
      Classical.byContradiction fun t => by
        obtain ⟨rfl, _⟩ := tr b t
        rw [ea] at e
        cases e
        exact nomatch (show Data.seq vs.toArray _ = Data.dict es n from d)
    have spaces : ∀ {b : Addr} {m : Str → Option Value}, z.heap.Ns b m → (hidT z.heap H).Ns b m := fun q => by
      obtain ⟨o, es, n, e, d, r⟩ := q
      exact ⟨o, es, n, hidT_get e (dictOff e d), d, r⟩
    have own : K.In (hidT z.heap H) := fun b o q => hidT_get (kin b o q) (Classical.byContradiction fun t => by
      obtain ⟨rfl, n⟩ := tr b t
      rw [n] at q
      cases q)
    obtain ⟨ml, l1, l2⟩ := nl
    have start : Env0 P w K mg (hidT z.heap H) callerA [] z H :=
      { frames := rfl, mod := ⟨own, spaces gl, ⟨mb, spaces bi, bb⟩, ml, spaces l1, l2⟩, bs := fun _ _ q => of_hidT q, bsz := Nat.le_of_eq (hidT_size _ _), funs := trivial,
        frf := fun b q => (List.not_mem_nil q).elim, hok := ok, bare := .of_eq gn }
    refine codeAny_mono ((F _ own (spaces gl)).goes callerA [] z H ⟨[.ref a], []⟩ [.ref a] [.ref a] _ _ rfl room start (bd z (.ref a)) (.cons rfl .nil) (says H only sq)) fun r s' q => ?_
    match r, q with
    | .error e, q => exact (quiet H e s' q).elim
    | .ok .next, q => exact False.elim q
    | .ok .brk, q => exact False.elim q
    | .ok .cont, q => exact False.elim q
    | .ok (.ret u), q =>
      obtain ⟨v, H', os, bare, un, ok', rv, (rfl : v = .bl true)⟩ := q
      obtain rfl : u = Value.bool true := rv
      refine ⟨rfl, OldK.of_keep fun b o e => ?_, os, bare⟩
      rcases only b with n | ⟨ob, xs, t⟩
      · exact un.keep b o e n (fun m => (List.not_mem_nil m).elim) List.not_mem_nil
      · obtain ⟨h1, _⟩ := ok b _ t
        obtain ⟨h2, _⟩ := ok' b _ (un.frzs b ob _ t)
        rw [e] at h1
        cases h1
        exact h2
  have rv := vals_ints hi
  have nv := hi.length
  by_cases hk : K.lookup a = none
  · obtain ⟨S, hS⟩ : ∃ S : Hp, S = fun b => if b = a then some (HO.frz { cls := .type "list", data := .seq vs.toArray } (.lst (ns.map V.int))) else none := ⟨_, rfl⟩
    have seen : S a = some (.frz { cls := .type "list", data := .seq vs.toArray } (.lst (ns.map V.int))) := by rw [hS]; exact if_pos rfl
    have other : ∀ b, b ≠ a → S b = none := fun b e => by rw [hS]; exact if_neg e
    clear hS
    refine main S (fun b => ?_) (fun b t => ?_) (.inl (.inr ⟨_, seen⟩)) (fun b u t => ?_)
    · by_cases e : b = a
      · exact .inr ⟨_, _, by rw [e]; exact seen⟩
      · exact .inl (other b e)
    · exact ⟨Classical.byContradiction fun e => t (other b e), hk⟩
    · by_cases e : b = a
      · subst e
        rw [seen] at t
        cases t
        exact ⟨ea, by rw [List.length_map]; exact few, vs, _, rv, ea⟩
      · exact nomatch (other b e).symm.trans t
  · obtain ⟨o, q⟩ := Option.ne_none_iff_exists'.mp hk
    have e := kin a o q
    rw [ea] at e
    cases e
    exact main (fun _ => none) (fun _ => .inl rfl) (fun _ t => (t rfl).elim) (.inr ⟨_, vs.toArray, _, q, rfl, rfl, rfl, by rw [List.size_toArray, nv]; exact few, by simpa using rv⟩) fun _ _ t => nomatch (show (none : Option HO) = some _ from t)
end
theorem walkG {l : PySem.W.OpenLaw} {n k : Nat} {q : Program} {loose : List Str} {XP : (Str → Option Value) → Heap → Prop} {YP : World → Heap → Prop} {d : DefRec} {K : Params → PySem.W.Frag} {sp : World → Sp} {x : Str}
    (h1 : l.most = some n) (h2 : n ≤ sizeLine) (h3 : d.params.defaults = []) (h4 : Room k callerA) (h5 : ∀ (w : World) (h : Heap), YP w h → (K w.params).In h)
    (F : ∀ (w : World) (mg : Str → Option Value) (fa : Addr) (h : Heap), (K w.params).In h → h.Ns mainGlobals mg → mg d.name = some (.ref fa) → ∃ fd : FuncData, (∀ (s : Shared) (u : Value), BindsTo s fd ⟨[u], []⟩ [(x, u)]) ∧
      ∀ base : Heap, (K w.params).In base → base.Ns mainGlobals mg → FnG l.prog w (K w.params) mg base CX0 k fa fd [x] (sp w))
    (says : ∀ (w : World) (H : Hp) (a : Addr) (ns : List Int), ns.length ≤ n → Only H → SqL (K w.params) H a (ns.map V.int) → sp w [.ref a] H (fun v _ => v = .bl true) fun _ _ _ => False)
    (quiet : ∀ (w : World) (H : Hp) (s : Shared) (e : Value) (s' : Shared), CX0 [] H s (fun _ _ _ => False) e s' → False) :
    PySem.W.WalkO q loose XP YP l.row.toRowW d [] (fun f vs => PySem.call f vs) :=
  Att.attach_call h1 h3 fun w s₀ s₁ mg mb fa o pm cd doc a vs ns G Y ho hd hcd hmg hobj hints hlen hg => by
    obtain ⟨fd, bd, hF⟩ := F w mg fa _ (h5 w _ Y) G.T.g hmg
    exact lawG (h5 w _ Y) G.T.g G.T.b G.T.builtins G.T.nolimit hg hobj hints (Nat.le_trans hlen h2) h4 hF bd (fun H only sq => says w H a ns hlen only sq) fun H e s' => quiet w H s₁ e s'
end Jv

/-! ### == and != of an instance whose class has its own __eq__: any answer, against an instance or a tuple -/
namespace Jv
open PySem PySem.Spec PyProof.Rows L2
section
variable {prog : Program} {w : World} {A : Around} {E : Value → Shared → Prop} {s : Shared} {K : PySem.W.Frag} {x C L f : Addr} {h₀ : Heap} {m : Str → Option Value} {ox : Obj} {od : Option Obj} {b tb : Value}
theorem ifBoundB {M : Model} {name : Str} {id : String} {args : List Value} {Q : Option Value → Shared → Prop} (X : K.In s.heap) (I : PySem.W.InstAt s.heap x ox C od) (hs : PySem.W.findIn K (.ref C) name = some (some (.builtin id)))
    (hb : ∀ self, bindSpecial (.builtin id) self = pure (.builtin id, [self])) (h : wpAny M A (call (.builtin id) (.ref x :: args)) (fun v => Q (some v)) E s) : wpAny M A (callSpecialIfBound? (.ref x) name args) Q E s := by
  simp only [callSpecialIfBound?, bindSpecialIfBound?]
  refine wpAny_holding (wpAny_bind (wpAny_bind (wpAny_bind (I.type.here ((PySem.W.looks_findIn X hs).here ?_)))))
  refine wpAny_bind (wpAny_askSetting (wpAny_ite ?_))
  have fin : wpAny M A (call (.builtin id) ([.ref x] ++ args) >>= fun v => pure (some v)) Q E s := wpAny_bind (wpAny_mono h (fun v s' h' => wpAny_pure h') fun _ _ h' => h')
  simp only [hb]
  split
  · exact wpAny_bind (wpAny_pure (wpAny_pure (by exact fin)))
  · exact wpAny_tryCatch (wpAny_bind (wpAny_pure (wpAny_pure (by exact fin))))
/-- object.__ne__ asks __eq__ and turns its answer round -/
theorem obj_ne {Q : Value → Shared → Prop} (hu : A.in1.units < cLine) (X : K.In s.heap) (I : PySem.W.InstAt s.heap x ox C od) (hm : PySem.W.mroIn K C (.type "object") = some true) (hr : PySem.W.findIn K (.ref C) "__eq__" = some (some (.ref f))) (hf : PySem.W.isFn K (.ref f) = true)
    (h : wpAny (model prog w) A.in1 (call (.ref f) [.ref x, b]) (fun v s' => ∃ r, v = .bool r ∧ Q (.bool (!r)) s') E s) : wpAny (model prog w) A (call (.builtin "object.__ne__") [.ref x, b]) Q E s := by
  refine wpAny_call (codeAny_call_builtin PySem.F.slot_object_ne.plain PySem.F.entry_object_ne (PySem.W.check_slot (i := "object.__ne__") (owner := "object") (n := "__ne__") PySem.F.cmpKind_ne PySem.F.cmpSplit_ne (I.type.andThen (PySem.W.looks_mroIn X hm)) (PySem.F.cmpArgs_ne _ _) ?_))
  unfold Builtin.«object.__ne__»
  refine wpAny_bind (m := slotArgs "__ne__" 1 _) (wpAny_pure ?_)
  show wpAny _ A.in1 (do
    cRoomFor "comparison" [.ref x, b]
    let r ← callSpecialIfBound? (.ref x) (Str.ofString "__eq__") [b]
    _) _ _ s
  refine wpAny_bind (m := cRoomFor _ _) (wpAny_cRoomFor hu ?_)
  refine wpAny_bind (m := callSpecialIfBound? (.ref x) (Str.ofString "__eq__") _) (PySem.W.ifBound_K X I hr hf (wpAny_mono h (fun r s' hq => ?_) fun _ _ y => y))
  obtain ⟨r, rfl, hq⟩ := hq
  repeat (first | exact hq | exact wpAny_pure hq | (refine wpAny_bind (m := truthy (.bool _)) (wpAny_truthy_bool ?_)) | wp_step)
theorem ne_K {Q : Value → Shared → Prop} (hu : A.units < cLine) (hu1 : A.in1.units < cLine) (F : Fr h₀ L s.heap m) (X₀ : K.In h₀) (I : PySem.W.InstAt s.heap x ox C od) (hb : PySem.W.Looks (model prog w) s.heap (typeOf b) tb) (hn : PySem.W.notFirst K C tb = true)
    (hs : PySem.W.findIn K (.ref C) "__ne__" = some (some (.builtin "object.__ne__"))) (hm : PySem.W.mroIn K C (.type "object") = some true) (hr : PySem.W.findIn K (.ref C) "__eq__" = some (some (.ref f))) (hf : PySem.W.isFn K (.ref f) = true)
    (h : wpAny (model prog w) A.in1 (call (.ref f) [.ref x, b]) (fun v s' => ∃ r, v = .bool r ∧ Q (.bool (!r)) s') E s) : wpAny (model prog w) A (richCompare .NotEq (.ref x) b) Q E s := by
  have X := X₀.keeps F.keep
  have one : wpAny (model prog w) A (tryCompare (.ref x) "__ne__" b) (fun r s' => ∃ v, r = some v ∧ Q v s') E s := by
    unfold tryCompare
    refine wpAny_bind (ifBoundB X I hs PySem.F.slot_object_ne.bind (obj_ne hu1 X I hm hr hf (wpAny_mono h (fun v s' hv => ?_) fun _ _ e => e)))
    obtain ⟨r, rfl, hq⟩ := hv
    exact ⟨r, rfl, wpAny_pure ⟨_, rfl, hq⟩⟩
  unfold richCompare
  simp only [oneThing_ref]
  refine wpAny_holding (wpAny_bind (wpAny_cRoomFor hu ?_))
  rw [cmpInfo_NotEq]
  dsimp only
  refine wpAny_bind (I.type.here (wpAny_bind (hb.here ?_)))
  split
  · rename_i q
    have e : PySem.W.subIn K tb (.ref C) = some false := by
      rcases Bool.or_eq_true_iff.mp hn with e | e
      · rw [beq_iff_eq.mp e] at q; simp at q
      · exact beq_iff_eq.mp e
    refine wpAny_bind ((PySem.W.looks_subIn X e).here ?_)
    simp only [Bool.false_eq_true, if_false]
    refine wpAny_bind (wpAny_mono one (fun r s' z => ?_) fun _ _ e => e)
    obtain ⟨v, rfl, hq⟩ := z
    exact wpAny_pure hq
  · refine wpAny_bind (wpAny_pure ?_)
    simp only [Bool.false_eq_true, if_false]
    refine wpAny_bind (wpAny_mono one (fun r s' z => ?_) fun _ _ e => e)
    obtain ⟨v, rfl, hq⟩ := z
    exact wpAny_pure hq
end
section
variable {X : Cx} {CX : CXT} {pins : List (Addr × Obj)} {σ : L2.St} {H : Hp} {s : Shared} {C f : Addr} {fd : FuncData} {ps : List Str} {k : Nat} {sp : Sp} {E : XK}
theorem run_in {A : Around} {Q : VK} {us : List Value} {ws : List V} (F : FnOk X.prog X.w X.K X.mg X.base CX k f fd ps sp) (hb : Binds X.K fd ps []) (hr : Room k A) (hf : A.frames = X.A.frames) (hx : Passes CX X E) (I : Inv X pins σ H s) (r : Vals ws us) (h : sp ws H Q E) :
    wpAny (model X.prog X.w) A (call (.ref f) us) (EP X pins σ Q) X.xe s := by
  have e0 : Env0 X.prog X.w X.K X.mg X.base A X.stack s H := by
    have e := I.env0
    exact ⟨by rw [hf]; exact e.frames, e.mod, e.bs, e.bsz, e.funs, e.frf, e.hok, e.bare⟩
  have hl : us.length = ps.length := by rw [← r.length]; exact F.len _ _ _ _ h
  refine wpAny_call (codeAny_mono (F.run A X.stack s H ⟨us, []⟩ us ws Q E hr e0 (by
    have := hb s us I.kIn (by simpa using hl)
    simpa using this) r h) fun r s' hq => ?_)
  cases r with
  | error e => exact hx pins σ H s e s' I hq
  | ok fl =>
    cases fl with
    | ret u => exact I.after hq
    | next => exact False.elim hq
    | brk => exact False.elim hq
    | cont => exact False.elim hq
/-- x op y: x an instance of the class at C, y one too or a tuple -/
def rEqO (K : PySem.W.Frag) (C : Addr) (sp : Sp) (E : XK) : R2 := fun x y H Q => ∃ a dx fs b, x = .ref a ∧ y = .ref b ∧ H a = some (.ins C dx fs) ∧ ((∃ dy gs, H b = some (.ins C dy gs)) ∨ ∃ ys, SqT K H b ys) ∧ sp [x, y] H (fun v H' => ∃ r, v = .bl r ∧ Q (.bl r) H') E
def rNeO (K : PySem.W.Frag) (C : Addr) (sp : Sp) (E : XK) : R2 := fun x y H Q => ∃ a dx fs b, x = .ref a ∧ y = .ref b ∧ H a = some (.ins C dx fs) ∧ ((∃ dy gs, H b = some (.ins C dy gs)) ∨ ∃ ys, SqT K H b ys) ∧ sp [x, y] H (fun v H' => ∃ r, v = .bl r ∧ Q (.bl (!r)) H') E
theorem looksO {b : Addr} (I : Inv X pins σ H s) (nt : PySem.W.notFirst X.K C (.type "tuple") = true) (h : (∃ dy gs, H b = some (.ins C dy gs)) ∨ ∃ ys, SqT X.K H b ys) : ∃ tb, PySem.W.Looks (model X.prog X.w) s.heap (typeOf (.ref b)) tb ∧ PySem.W.notFirst X.K C tb = true := by
  rcases h with ⟨dy, gs, hb⟩ | ⟨ys, hb⟩
  · obtain ⟨mB, J', _⟩ := ins_get I.hok hb
    obtain ⟨od', J', _⟩ := J'.look
    exact ⟨.ref C, J'.type, by simp [PySem.W.notFirst]⟩
  · obtain ⟨its, r, e, z⟩ := I.tuple hb
    obtain ⟨o, ho, hc, n, hd⟩ := id e
    have h1 : PySem.W.Looks (model X.prog X.w) s.heap (typeOf (.ref b)) o.cls := PySem.W.Looks.ld (part := none) ho |>.andThen .now
    rw [hc] at h1
    exact ⟨_, h1, nt⟩
theorem op_eqO (F : FnOk X.prog X.w X.K X.mg X.base CX k f fd ps sp) (hm : Meth X.K C "__eq__" f) (nt : PySem.W.notFirst X.K C (.type "tuple") = true) (hr : Room k X.A) (hb : Binds X.K fd ps []) (hx : Passes CX X E) : OpR X (compareOp .Eq) (rEqO X.K C sp E) := by
  intro pins s σ H x y v u Q I rx ry h
  obtain ⟨a, dx, fs, b, rfl, rfl, ha, hy, q⟩ := h
  cases (show v = Value.ref a from rx)
  cases (show u = Value.ref b from ry)
  obtain ⟨mA, J, _⟩ := ins_get I.hok ha
  obtain ⟨od, J, _⟩ := J.look
  obtain ⟨m, hF⟩ := I.fr
  obtain ⟨tb, hl, hn⟩ := looksO I nt hy
  show wpAny (model X.prog X.w) X.A (richCompare .Eq (.ref a) (.ref b)) _ _ s
  refine PySem.W.cmp_K (op := .Eq) (tb := tb) hr.units0 hF I.ok.mod.kin J hl hn hm.at_ hm.fn ?_
  refine wpAny_mono (run_in (us := [.ref a, .ref b]) (ws := [.ref a, .ref b]) F hb hr rfl hx I (.cons rfl (.cons rfl .nil)) q) (fun w s' z => ?_) fun _ _ x => x
  obtain ⟨z', H', I', rz, r, er, qz⟩ := z
  subst er
  cases (show w = Value.bool r from rz)
  exact ⟨.bl r, H', I', rfl, qz⟩
theorem op_neO (F : FnOk X.prog X.w X.K X.mg X.base CX k f fd ps sp) (hm : Meth X.K C "__eq__" f) (hs : PySem.W.findIn X.K (.ref C) "__ne__" = some (some (.builtin "object.__ne__"))) (ho : PySem.W.mroIn X.K C (.type "object") = some true) (nt : PySem.W.notFirst X.K C (.type "tuple") = true)
    (hr : Room (k + 1) X.A) (hb : Binds X.K fd ps []) (hx : Passes CX X E) : OpR X (compareOp .NotEq) (rNeO X.K C sp E) := by
  intro pins s σ H x y v u Q I rx ry h
  obtain ⟨a, dx, fs, b, rfl, rfl, ha, hy, q⟩ := h
  cases (show v = Value.ref a from rx)
  cases (show u = Value.ref b from ry)
  obtain ⟨mA, J, _⟩ := ins_get I.hok ha
  obtain ⟨od, J, _⟩ := J.look
  obtain ⟨m, hF⟩ := I.fr
  obtain ⟨tb, hl, hn⟩ := looksO I nt hy
  show wpAny (model X.prog X.w) X.A (richCompare .NotEq (.ref a) (.ref b)) _ _ s
  refine ne_K (tb := tb) hr.units0 hr.in1.units0 hF I.ok.mod.kin J hl hn hs ho hm.at_ hm.fn ?_
  refine wpAny_mono (run_in (us := [.ref a, .ref b]) (ws := [.ref a, .ref b]) F hb hr.in1 rfl hx I (.cons rfl (.cons rfl .nil)) q) (fun w s' z => ?_) fun _ _ x => x
  obtain ⟨z', H', I', rz, r, er, qz⟩ := z
  subst er
  cases (show w = Value.bool r from rz)
  exact ⟨r, rfl, .bl (!r), H', I', rfl, qz⟩
end
/-- what isinstance takes as the type of a tuple -/
theorem tyT {K : PySem.W.Frag} {H : Hp} {a : Addr} {xs : List V} (h : SqT K H a xs) : TyX K H (.ref a) (.type "tuple") := by
  rcases h with (h | ⟨o, h⟩) | h
  · exact .base (.tup h)
  · exact .fTuple h
  · obtain ⟨o, _, _, e, c, _⟩ := h
    exact .kTuple e c
end Jv

/-! ### the walk through a reading -/
local macro_rules | `(tactic| walk_at "r1") => `(tactic| first
  | with_reducible refine Jv.r_seq ?_
  | with_reducible refine Jv.r_asg ?_
  | with_reducible refine Jv.r_gn ?_
  | with_reducible refine Jv.r_ret ?_
  | with_reducible refine Jv.r_retN ?_
  | with_reducible refine Jv.r_drop ?_
  | with_reducible refine Jv.r_if ?_
  | with_reducible refine Jv.r_next ?_
  | with_reducible refine Jv.r_brk ?_
  | with_reducible refine Jv.r_cont ?_
  | ((with_reducible refine' Jv.r_var ?hv ?_); (case hv => rfl))
  | with_reducible refine Jv.r_c ?_
  | with_reducible refine Jv.r_op ?_
  | with_reducible refine Jv.r_un ?_
  | with_reducible refine Jv.r_I0 ?_
  | with_reducible refine Jv.r_U ?_
  | ((with_reducible refine Jv.r_eq ?hs ?_); (case hs => rfl))
  | ((with_reducible refine Jv.r_ne ?hs ?_); (case hs => rfl))
  | with_reducible refine Jv.r_test ?_
  | with_reducible refine Jv.r_B ?_
  | with_reducible refine Jv.r_bl ?_
  | with_reducible refine Jv.r_and ?_
  | with_reducible refine Jv.r_or ?_
  | with_reducible refine Jv.r_not ?_
  | with_reducible refine Jv.r_andV ?_
  | with_reducible refine Jv.r_orV ?_
  | with_reducible refine Jv.r_notV ?_
  | with_reducible refine Jv.r_ife ?_
  | with_reducible refine Jv.r_chain ?_
  | with_reducible refine Jv.r_nil ?_
  | with_reducible refine Jv.r_cons ?_
  | with_reducible refine Jv.r_tup ?_
  | with_reducible refine Jv.r_lst ?_
  | with_reducible refine Jv.r_CB ?_
  | with_reducible refine Jv.r_call ?_
  | with_reducible refine Jv.r_callS ?_
  | with_reducible refine Jv.r_for ?_
  | with_reducible refine Jv.r_iR1 ?_
  | with_reducible refine Jv.r_iR2 ?_
  | with_reducible refine Jv.r_sub ?_
  | with_reducible refine Jv.r_int ?_)
local macro_rules | `(tactic| walk_at "r") => `(tactic| (repeat walk_at "r1"))

local macro_rules | `(tactic| walk_at "cond") => `(tactic| first
  | exact Or.inr ⟨by decide, by decide⟩
  | exact Or.inl ⟨by decide, by decide⟩
  | exact ⟨by decide, by decide⟩
  | exact ⟨by assumption, by assumption⟩
  | exact ⟨by decide, by decide, by decide⟩
  | (show (0 : Int) < _; first | decide | omega)
  | exact Jv.cdivS (by omega) (by omega)
  | exact Or.inr ⟨by omega, by omega⟩
  | exact Or.inl ⟨by omega, by omega⟩)
local macro_rules | `(tactic| walk_at "r1") => `(tactic| ((with_reducible refine Jv.r_I ?hc ?_); (case hc => walk_at "cond")))

local macro_rules | `(tactic| walk_at "ne") => `(tactic| first
  | assumption
  | exact Ne.symm (by assumption)
  | exact L2.ne_of_none (by walk_at "hp") (by assumption)
  | exact Ne.symm (L2.ne_of_none (by walk_at "hp") (by assumption)))
local macro_rules | `(tactic| walk_at "hp") => `(tactic| first
  | assumption
  | exact L2.upd_same
  | ((refine' Jv.kp ?hp1 ?hp2); (case hp2 => assumption); (case hp1 => walk_at "hp"))
  | ((refine' Jv.kpO ?hp1 ?hp2); (case hp1 => walk_at "hp"); (case hp2 => walk_at "ne")))
local macro_rules | `(tactic| walk_at "sq") => `(tactic| first
  | assumption
  | ((refine' Jv.sqT_at ?sq1); (case sq1 => walk_at "hp"))
  | ((refine' Jv.sqL_at ?sq1); (case sq1 => walk_at "hp"))
  | ((refine' Jv.sqT_new ?sq1 ?sq2); (case sq2 => assumption); (case sq1 => walk_at "sq"))
  | ((refine' Jv.sqL_new ?sq1 ?sq2); (case sq2 => assumption); (case sq1 => walk_at "sq"))
  | ((refine' L2.Same.seq ?sq1 ?sq2); (case sq1 => assumption); (case sq2 => assumption))
  | ((refine' Jv.Same.sqT ?sq1 ?sq2); (case sq1 => assumption); (case sq2 => assumption)))
local macro_rules | `(tactic| walk_at "r1") => `(tactic| first
  | ((with_reducible refine' Jv.r_gtup ?hq ?hl ?_); (case hq => walk_at "sq"); (case hl => rfl))
  | with_reducible refine Jv.r_gcons ?_
  | with_reducible refine Jv.r_gnil ?_
  | with_reducible refine Jv.r_iEn ?_
  | with_reducible refine Jv.r_iL ?_
  | with_reducible refine Jv.r_iT ?_
  | with_reducible refine Jv.r_yes ?_
  | with_reducible refine Jv.r_ift ?_
  | with_reducible refine Jv.r_iff ?_
  | ((with_reducible refine' Jv.r_new ?hn ?_); (case hn => exact Nat.le_of_ble_eq_true rfl))
  | ((with_reducible refine' Jv.r_wipe ?he ?_); (case he => rfl)))
local macro_rules | `(tactic| walk_at "len") => `(tactic| first
  | exact Or.inl (by walk_at "sq")
  | exact Or.inr (by walk_at "sq"))
local macro_rules | `(tactic| walk_at "r1") => `(tactic| first
  | ((with_reducible refine' Jv.r_ixL ?hs ?he ?_); (case hs => walk_at "sq"); (case he => rfl))
  | ((with_reducible refine' Jv.r_ixT ?hs ?he ?_); (case hs => walk_at "sq"); (case he => rfl))
  | ((with_reducible refine' Jv.r_setL ?hs ?he ?_); (case hs => walk_at "hp"); (case he => rfl))
  | ((with_reducible refine' Jv.r_len ?hs ?_); (case hs => walk_at "len")))
local macro_rules | `(tactic| walk_at "th") => `(tactic| first
  | assumption
  | exact Jv.Th.same (by assumption) (by assumption)
  | exact Jv.Th.same (by assumption) (Jv.same_new (by assumption))
  | exact trivial)
local macro_rules | `(tactic| walk_at "r1") => `(tactic| first
  | ((with_reducible refine' Jv.r_isB ?hx ?_); (case hx => walk_at "th"))
  | ((with_reducible refine' Jv.r_isI ?hx ?_); (case hx => walk_at "th"))
  | ((with_reducible refine' Jv.r_isS ?hp ?hx ?_); (case hp => walk_at "hp"); (case hx => walk_at "th"))
  | ((with_reducible refine' Jv.r_false ?he ?_); (case he => rfl))
  | ((with_reducible refine' Jv.r_true ?he ?_); (case he => rfl))
  | with_reducible refine Jv.r_rfl ?_)
local macro_rules | `(tactic| walk_at "r2") => `(tactic| first
  | walk_at "r1"
  | ((with_reducible refine' Jv.r_dec1 ?hd ?_); (case hd => omega))
  | ((with_reducible refine' Jv.r_dec0 ?hd ?_); (case hd => omega))
  | with_reducible refine Jv.r_decI (fun _ => ?_) (fun _ => ?_)
  | with_reducible refine Jv.r_ndecI (fun _ => ?_) (fun _ => ?_)
  | with_reducible refine Jv.r_dec (fun _ => ?_) (fun _ => ?_)
  | with_reducible refine Jv.r_ndec (fun _ => ?_) (fun _ => ?_))
local macro_rules | `(tactic| walk_at "rr") => `(tactic| (repeat' walk_at "r2"))
local macro_rules | `(tactic| walk_at "r1") => `(tactic| first
  | with_reducible refine Jv.r_min ?_
  | with_reducible refine Jv.r_max ?_
  | with_reducible refine Jv.r_absN ?_
  | with_reducible refine Jv.r_intN ?_)
local macro_rules | `(tactic| walk_at "r1") => `(tactic| first
  | with_reducible refine Jv.r_bm ?_
  | ((with_reducible refine' Jv.r_tyL ?hp ?_); (case hp => walk_at "hp")))

local macro_rules | `(tactic| walk_at "r1") => `(tactic| first
  | with_reducible refine Jv.r_callN ?_
  | with_reducible refine Jv.r_disp1 ?_
  | with_reducible refine Jv.r_same ?_)

local macro_rules | `(tactic| walk_at "dv") => `(tactic| first
  | assumption
  | exact Jv.Dv.same (by assumption) (by assumption)
  | exact Jv.Dv.same (Jv.same_new (by assumption)) (by assumption)
  | exact Jv.Dv.int _
  | exact Jv.Dv.non
  | exact Jv.Dv.bl _)
local macro_rules | `(tactic| walk_at "r1") => `(tactic| first
  | ((with_reducible refine' Jv.d_isB ?hx ?_); (case hx => walk_at "dv"))
  | ((with_reducible refine' Jv.d_isI ?hx ?_); (case hx => walk_at "dv"))
  | ((with_reducible refine' Jv.d_isS ?hp ?hx ?_); (case hp => walk_at "hp"); (case hx => walk_at "dv")))

namespace K02
open PySem PySem.Spec PyProof.Rows L2
def topS (i : Nat) : Stmt := PySem.Challenge.pw_risingcalls_k02_whole_goals_made_and_ref.main.body.getD i (.Pass ⟨0, 0, 0, 0⟩)
abbrev s_BadGoalsu_initu : Stmt := inClass (topS 3) 0
abbrev s_is_whole : Stmt := topS 11
abbrev s_is_truth : Stmt := topS 12
abbrev s_is_sequence : Stmt := topS 13
abbrev s_are_sides : Stmt := topS 14
abbrev s_check_couple : Stmt := topS 15
abbrev s_sides_of_lines : Stmt := topS 17
abbrev s_are_ends : Stmt := topS 18
abbrev s_is_knowing : Stmt := topS 19
abbrev s_Goalsu_initu : Stmt := inClass (topS 20) 0
abbrev s_Goalsu_equ : Stmt := inClass (topS 20) 1
abbrev s_Goals_ends_for : Stmt := inClass (topS 20) 2
abbrev s_Lmix : Stmt := topS 22
abbrev s_Lhand : Stmt := topS 23
abbrev s_Ldraw : Stmt := topS 24
abbrev s_Lwhole : Stmt := topS 25
abbrev s_Lis : Stmt := topS 26
abbrev s_Lwide_sides : Stmt := topS 27
abbrev s_Lends : Stmt := topS 28
abbrev s_Lneat : Stmt := topS 29
abbrev s_Lraw_wanted : Stmt := topS 30
abbrev s_Lneat_wanted : Stmt := topS 31
abbrev s_Ltruths : Stmt := topS 32
abbrev s_Lgoal_facts : Stmt := topS 33
abbrev s_Lmade : Stmt := topS 34
abbrev s_Lends_told : Stmt := topS 35
abbrev s_Lbad_ladder : Stmt := topS 36
abbrev s_Lbad_lines : Stmt := topS 37
abbrev s_Lbad_ends : Stmt := topS 38
abbrev s_Lbad_knows : Stmt := topS 39
abbrev s_Lunlike_ends : Stmt := topS 40
abbrev s_Lrefused : Stmt := topS 41
abbrev s_law : Stmt := topS 42
theorem sc_BadGoalsu_initu : FnScope ["self", "what"] ["self", "what"] (defScope s_BadGoalsu_initu) := ⟨rfl, rfl, rfl, by decide +kernel, rfl, by decide +kernel, by decide +kernel⟩
theorem sc_is_whole : FnScope ["thing", "low", "high"] ["thing", "low", "high"] (defScope s_is_whole) := ⟨rfl, rfl, rfl, by decide +kernel, rfl, by decide +kernel, by decide +kernel⟩
theorem sc_is_truth : FnScope ["thing"] ["thing"] (defScope s_is_truth) := ⟨rfl, rfl, rfl, by decide +kernel, rfl, by decide +kernel, by decide +kernel⟩
theorem sc_is_sequence : FnScope ["thing"] ["thing"] (defScope s_is_sequence) := ⟨rfl, rfl, rfl, by decide +kernel, rfl, by decide +kernel, by decide +kernel⟩
theorem sc_are_sides : FnScope ["thing", "kinds"] ["thing"] (defScope s_are_sides) := ⟨rfl, rfl, rfl, by decide +kernel, rfl, by decide +kernel, by decide +kernel⟩
theorem sc_check_couple : FnScope ["sides", "couple", "side"] ["sides", "couple"] (defScope s_check_couple) := ⟨rfl, rfl, rfl, by decide +kernel, rfl, by decide +kernel, by decide +kernel⟩
theorem sc_sides_of_lines : FnScope ["lines", "lengths", "line"] ["lines"] (defScope s_sides_of_lines) := ⟨rfl, rfl, rfl, by decide +kernel, rfl, by decide +kernel, by decide +kernel⟩
theorem sc_are_ends : FnScope ["thing", "ladder", "end"] ["thing", "ladder"] (defScope s_are_ends) := ⟨rfl, rfl, rfl, by decide +kernel, rfl, by decide +kernel, by decide +kernel⟩
theorem sc_is_knowing : FnScope ["thing", "part"] ["thing"] (defScope s_is_knowing) := ⟨rfl, rfl, rfl, by decide +kernel, rfl, by decide +kernel, by decide +kernel⟩
theorem sc_Goalsu_initu : FnScope ["self", "ladder", "wanted", "knows", "sides", "line", "ends"] ["self", "ladder", "wanted", "knows"] (defScope s_Goalsu_initu) := ⟨rfl, rfl, rfl, by decide +kernel, rfl, by decide +kernel, by decide +kernel⟩
theorem sc_Goalsu_equ : FnScope ["self", "other"] ["self", "other"] (defScope s_Goalsu_equ) := ⟨rfl, rfl, rfl, by decide +kernel, rfl, by decide +kernel, by decide +kernel⟩
theorem sc_Goals_ends_for : FnScope ["self", "couple", "east", "west"] ["self", "couple"] (defScope s_Goals_ends_for) := ⟨rfl, rfl, rfl, by decide +kernel, rfl, by decide +kernel, by decide +kernel⟩
theorem sc_Lmix : FnScope ["_law_number", "_law_turn", "_law_once", "_law_twice"] ["_law_number", "_law_turn"] (defScope s_Lmix) := ⟨rfl, rfl, rfl, by decide +kernel, rfl, by decide +kernel, by decide +kernel⟩
theorem sc_Lhand : FnScope ["_law_script", "_law_total", "_law_k", "_law_cell"] ["_law_script"] (defScope s_Lhand) := ⟨rfl, rfl, rfl, by decide +kernel, rfl, by decide +kernel, by decide +kernel⟩
theorem sc_Ldraw : FnScope ["_law_hand_here", "_law_many", "_law_cell", "_law_rest"] ["_law_hand_here", "_law_many"] (defScope s_Ldraw) := ⟨rfl, rfl, rfl, by decide +kernel, rfl, by decide +kernel, by decide +kernel⟩
theorem sc_Lwhole : FnScope ["_law_thing"] ["_law_thing"] (defScope s_Lwhole) := ⟨rfl, rfl, rfl, by decide +kernel, rfl, by decide +kernel, by decide +kernel⟩
theorem sc_Lis : FnScope ["_law_thing", "_law_due"] ["_law_thing", "_law_due"] (defScope s_Lis) := ⟨rfl, rfl, rfl, by decide +kernel, rfl, by decide +kernel, by decide +kernel⟩
theorem sc_Lwide_sides : FnScope ["_law_hand_here", "_law_p", "_law_q"] ["_law_hand_here"] (defScope s_Lwide_sides) := ⟨rfl, rfl, rfl, by decide +kernel, rfl, by decide +kernel, by decide +kernel⟩
theorem sc_Lends : FnScope ["_law_hand_here", "_law_ladder", "_law_ends_here", "_law_turn"] ["_law_hand_here", "_law_ladder"] (defScope s_Lends) := ⟨rfl, rfl, rfl, by decide +kernel, rfl, by decide +kernel, by decide +kernel⟩
theorem sc_Lneat : FnScope ["_law_ends_here", "_law_ladder", "_law_end"] ["_law_ends_here", "_law_ladder"] (defScope s_Lneat) := ⟨rfl, rfl, rfl, by decide +kernel, rfl, by decide +kernel, by decide +kernel⟩
theorem sc_Lraw_wanted : FnScope ["_law_hand_here", "_law_sides", "_law_ladder", "_law_lines", "_law_east", "_law_line", "_law_west", "_law_ends_here"] ["_law_hand_here", "_law_sides", "_law_ladder"] (defScope s_Lraw_wanted) := ⟨rfl, rfl, rfl, by decide +kernel, rfl, by decide +kernel, by decide +kernel⟩
theorem sc_Lneat_wanted : FnScope ["_law_lines", "_law_ladder", "_law_line", "_law_ends_here"] ["_law_lines", "_law_ladder"] (defScope s_Lneat_wanted) := ⟨rfl, rfl, rfl, by decide +kernel, rfl, by decide +kernel, by decide +kernel⟩
theorem sc_Ltruths : FnScope ["_law_hand_here"] ["_law_hand_here"] (defScope s_Ltruths) := ⟨rfl, rfl, rfl, by decide +kernel, rfl, by decide +kernel, by decide +kernel⟩
theorem sc_Lgoal_facts : FnScope ["_law_goals", "_law_ladder", "_law_wanted", "_law_known", "_law_line", "_law_ends_here", "_law_end"] ["_law_goals", "_law_ladder", "_law_wanted", "_law_known"] (defScope s_Lgoal_facts) := ⟨rfl, rfl, rfl, by decide +kernel, rfl, by decide +kernel, by decide +kernel⟩
theorem sc_Lmade : FnScope ["_law_ladder", "_law_wanted", "_law_known", "e"] ["_law_ladder", "_law_wanted", "_law_known"] (defScope s_Lmade) := ⟨rfl, rfl, rfl, by decide +kernel, rfl, by decide +kernel, by decide +kernel⟩
theorem sc_Lends_told : FnScope ["_law_goals", "_law_couple"] ["_law_goals", "_law_couple"] (defScope s_Lends_told) := ⟨rfl, rfl, rfl, by decide +kernel, rfl, by decide +kernel, by decide +kernel⟩
theorem sc_Lbad_ladder : FnScope ["_law_hand_here"] ["_law_hand_here"] (defScope s_Lbad_ladder) := ⟨rfl, rfl, rfl, by decide +kernel, rfl, by decide +kernel, by decide +kernel⟩
theorem sc_Lbad_lines : FnScope ["_law_hand_here", "_law_lines", "_law_bad", "_law_line"] ["_law_hand_here", "_law_lines"] (defScope s_Lbad_lines) := ⟨rfl, rfl, rfl, by decide +kernel, rfl, by decide +kernel, by decide +kernel⟩
theorem sc_Lbad_ends : FnScope ["_law_hand_here", "_law_ladder"] ["_law_hand_here", "_law_ladder"] (defScope s_Lbad_ends) := ⟨rfl, rfl, rfl, by decide +kernel, rfl, by decide +kernel, by decide +kernel⟩
theorem sc_Lbad_knows : FnScope ["_law_hand_here"] ["_law_hand_here"] (defScope s_Lbad_knows) := ⟨rfl, rfl, rfl, by decide +kernel, rfl, by decide +kernel, by decide +kernel⟩
theorem sc_Lunlike_ends : FnScope ["_law_hand_here", "_law_ends_here", "_law_ladder", "_law_at", "_law_end"] ["_law_hand_here", "_law_ends_here", "_law_ladder"] (defScope s_Lunlike_ends) := ⟨rfl, rfl, rfl, by decide +kernel, rfl, by decide +kernel, by decide +kernel⟩
theorem sc_Lrefused : FnScope ["_law_hand_here", "_law_sides", "_law_ladder", "_law_lines", "_law_known", "_law_faults", "_law_kept", "_law_due", "_law_truths_here", "_law_top", "_law_made_here", "_law_line", "_law_ends_here"] ["_law_hand_here", "_law_sides", "_law_ladder", "_law_lines", "_law_known"] (defScope s_Lrefused) := ⟨rfl, rfl, rfl, by decide +kernel, rfl, by decide +kernel, by decide +kernel⟩
theorem sc_law : FnScope ["_law_script", "_law_hand_here", "_law_turn", "_law_sides", "_law_ladder", "_law_lines", "_law_known", "_law_told", "_law_goals", "_law_wanted", "_law_east", "_law_west", "_law_due", "_law_soft", "_law_other", "_law_plain", "_law_couple", "_law_bent", "_law_unlike", "_law_line", "_law_ends_here"] ["_law_script"] (defScope s_law) := ⟨rfl, rfl, rfl, by decide +kernel, rfl, by decide +kernel, by decide +kernel⟩
structure Tx where
  f_BadGoalsu_initu : Addr
  d_BadGoalsu_initu : FuncData
  f_is_whole : Addr
  d_is_whole : FuncData
  f_is_truth : Addr
  d_is_truth : FuncData
  f_is_sequence : Addr
  d_is_sequence : FuncData
  f_are_sides : Addr
  d_are_sides : FuncData
  f_check_couple : Addr
  d_check_couple : FuncData
  f_sides_of_lines : Addr
  d_sides_of_lines : FuncData
  f_are_ends : Addr
  d_are_ends : FuncData
  f_is_knowing : Addr
  d_is_knowing : FuncData
  f_Goalsu_initu : Addr
  d_Goalsu_initu : FuncData
  f_Goalsu_equ : Addr
  d_Goalsu_equ : FuncData
  f_Goals_ends_for : Addr
  d_Goals_ends_for : FuncData
  f_Lmix : Addr
  d_Lmix : FuncData
  f_Lhand : Addr
  d_Lhand : FuncData
  f_Ldraw : Addr
  d_Ldraw : FuncData
  f_Lwhole : Addr
  d_Lwhole : FuncData
  f_Lis : Addr
  d_Lis : FuncData
  f_Lwide_sides : Addr
  d_Lwide_sides : FuncData
  f_Lends : Addr
  d_Lends : FuncData
  f_Lneat : Addr
  d_Lneat : FuncData
  f_Lraw_wanted : Addr
  d_Lraw_wanted : FuncData
  f_Lneat_wanted : Addr
  d_Lneat_wanted : FuncData
  f_Ltruths : Addr
  d_Ltruths : FuncData
  f_Lgoal_facts : Addr
  d_Lgoal_facts : FuncData
  f_Lmade : Addr
  d_Lmade : FuncData
  f_Lends_told : Addr
  d_Lends_told : FuncData
  f_Lbad_ladder : Addr
  d_Lbad_ladder : FuncData
  f_Lbad_lines : Addr
  d_Lbad_lines : FuncData
  f_Lbad_ends : Addr
  d_Lbad_ends : FuncData
  f_Lbad_knows : Addr
  d_Lbad_knows : FuncData
  f_Lunlike_ends : Addr
  d_Lunlike_ends : FuncData
  f_Lrefused : Addr
  d_Lrefused : FuncData
  f_law : Addr
  d_law : FuncData
  C_CallError : Addr
  C_BadGoals : Addr
  C_BadCouple : Addr
  C_Goals : Addr
  t_EAST : Tok
  t_WEST : Tok
  t_LADDER_MOST : Tok
  t_KINDS_MOST : Tok
  t_COUPLES_MOST : Tok
  e1_is_whole : List Value
  e2_is_whole : List Value
  e1_Goalsu_initu : List Value
  w0_Goalsu_initu : Addr
structure Ok (K : PySem.W.Frag) (mg : Str → Option Value) (T : Tx) : Prop where
  F_BadGoalsu_initu : Fun K "__init__" "BadGoals.__init__" s_BadGoalsu_initu T.f_BadGoalsu_initu T.d_BadGoalsu_initu
  b_BadGoalsu_initu : Binds K T.d_BadGoalsu_initu ["self", "what"] []
  F_is_whole : FunD K "is_whole" "is_whole" (defArgs s_is_whole) (defBody s_is_whole) (defScope s_is_whole) [.non, .non] [] T.f_is_whole T.d_is_whole
  m_is_whole : mg "is_whole" = some (.ref T.f_is_whole)
  b_is_whole : Binds K T.d_is_whole ["thing", "low", "high"] []
  b1_is_whole : Vals [.non] T.e1_is_whole ∧ Binds K T.d_is_whole ["thing", "low", "high"] T.e1_is_whole
  b2_is_whole : Vals [.non, .non] T.e2_is_whole ∧ Binds K T.d_is_whole ["thing", "low", "high"] T.e2_is_whole
  F_is_truth : Fun K "is_truth" "is_truth" s_is_truth T.f_is_truth T.d_is_truth
  m_is_truth : mg "is_truth" = some (.ref T.f_is_truth)
  b_is_truth : Binds K T.d_is_truth ["thing"] []
  F_is_sequence : Fun K "is_sequence" "is_sequence" s_is_sequence T.f_is_sequence T.d_is_sequence
  m_is_sequence : mg "is_sequence" = some (.ref T.f_is_sequence)
  b_is_sequence : Binds K T.d_is_sequence ["thing"] []
  F_are_sides : Fun K "are_sides" "are_sides" s_are_sides T.f_are_sides T.d_are_sides
  m_are_sides : mg "are_sides" = some (.ref T.f_are_sides)
  b_are_sides : Binds K T.d_are_sides ["thing"] []
  F_check_couple : Fun K "check_couple" "check_couple" s_check_couple T.f_check_couple T.d_check_couple
  m_check_couple : mg "check_couple" = some (.ref T.f_check_couple)
  b_check_couple : Binds K T.d_check_couple ["sides", "couple"] []
  F_sides_of_lines : Fun K "sides_of_lines" "sides_of_lines" s_sides_of_lines T.f_sides_of_lines T.d_sides_of_lines
  m_sides_of_lines : mg "sides_of_lines" = some (.ref T.f_sides_of_lines)
  b_sides_of_lines : Binds K T.d_sides_of_lines ["lines"] []
  F_are_ends : Fun K "are_ends" "are_ends" s_are_ends T.f_are_ends T.d_are_ends
  m_are_ends : mg "are_ends" = some (.ref T.f_are_ends)
  b_are_ends : Binds K T.d_are_ends ["thing", "ladder"] []
  F_is_knowing : Fun K "is_knowing" "is_knowing" s_is_knowing T.f_is_knowing T.d_is_knowing
  m_is_knowing : mg "is_knowing" = some (.ref T.f_is_knowing)
  b_is_knowing : Binds K T.d_is_knowing ["thing"] []
  F_Goalsu_initu : FunD K "__init__" "Goals.__init__" (defArgs s_Goalsu_initu) (defBody s_Goalsu_initu) (defScope s_Goalsu_initu) [(.ref T.w0_Goalsu_initu)] [] T.f_Goalsu_initu T.d_Goalsu_initu
  y0_Goalsu_initu : ∀ H : Hp, SqT K H T.w0_Goalsu_initu [(.bl false), (.bl false)]
  b_Goalsu_initu : Binds K T.d_Goalsu_initu ["self", "ladder", "wanted", "knows"] []
  b1_Goalsu_initu : Vals [(.ref T.w0_Goalsu_initu)] T.e1_Goalsu_initu ∧ Binds K T.d_Goalsu_initu ["self", "ladder", "wanted", "knows"] T.e1_Goalsu_initu
  F_Goalsu_equ : Fun K "__eq__" "Goals.__eq__" s_Goalsu_equ T.f_Goalsu_equ T.d_Goalsu_equ
  b_Goalsu_equ : Binds K T.d_Goalsu_equ ["self", "other"] []
  F_Goals_ends_for : Fun K "ends_for" "Goals.ends_for" s_Goals_ends_for T.f_Goals_ends_for T.d_Goals_ends_for
  b_Goals_ends_for : Binds K T.d_Goals_ends_for ["self", "couple"] []
  F_Lmix : Fun K "_law_mix" "_law_mix" s_Lmix T.f_Lmix T.d_Lmix
  m_Lmix : mg "_law_mix" = some (.ref T.f_Lmix)
  b_Lmix : Binds K T.d_Lmix ["_law_number", "_law_turn"] []
  F_Lhand : Fun K "_law_hand" "_law_hand" s_Lhand T.f_Lhand T.d_Lhand
  m_Lhand : mg "_law_hand" = some (.ref T.f_Lhand)
  b_Lhand : Binds K T.d_Lhand ["_law_script"] []
  F_Ldraw : Fun K "_law_draw" "_law_draw" s_Ldraw T.f_Ldraw T.d_Ldraw
  m_Ldraw : mg "_law_draw" = some (.ref T.f_Ldraw)
  b_Ldraw : Binds K T.d_Ldraw ["_law_hand_here", "_law_many"] []
  F_Lwhole : Fun K "_law_whole" "_law_whole" s_Lwhole T.f_Lwhole T.d_Lwhole
  m_Lwhole : mg "_law_whole" = some (.ref T.f_Lwhole)
  b_Lwhole : Binds K T.d_Lwhole ["_law_thing"] []
  F_Lis : Fun K "_law_is" "_law_is" s_Lis T.f_Lis T.d_Lis
  m_Lis : mg "_law_is" = some (.ref T.f_Lis)
  b_Lis : Binds K T.d_Lis ["_law_thing", "_law_due"] []
  F_Lwide_sides : Fun K "_law_wide_sides" "_law_wide_sides" s_Lwide_sides T.f_Lwide_sides T.d_Lwide_sides
  m_Lwide_sides : mg "_law_wide_sides" = some (.ref T.f_Lwide_sides)
  b_Lwide_sides : Binds K T.d_Lwide_sides ["_law_hand_here"] []
  F_Lends : Fun K "_law_ends" "_law_ends" s_Lends T.f_Lends T.d_Lends
  m_Lends : mg "_law_ends" = some (.ref T.f_Lends)
  b_Lends : Binds K T.d_Lends ["_law_hand_here", "_law_ladder"] []
  F_Lneat : Fun K "_law_neat" "_law_neat" s_Lneat T.f_Lneat T.d_Lneat
  m_Lneat : mg "_law_neat" = some (.ref T.f_Lneat)
  b_Lneat : Binds K T.d_Lneat ["_law_ends_here", "_law_ladder"] []
  F_Lraw_wanted : Fun K "_law_raw_wanted" "_law_raw_wanted" s_Lraw_wanted T.f_Lraw_wanted T.d_Lraw_wanted
  m_Lraw_wanted : mg "_law_raw_wanted" = some (.ref T.f_Lraw_wanted)
  b_Lraw_wanted : Binds K T.d_Lraw_wanted ["_law_hand_here", "_law_sides", "_law_ladder"] []
  F_Lneat_wanted : Fun K "_law_neat_wanted" "_law_neat_wanted" s_Lneat_wanted T.f_Lneat_wanted T.d_Lneat_wanted
  m_Lneat_wanted : mg "_law_neat_wanted" = some (.ref T.f_Lneat_wanted)
  b_Lneat_wanted : Binds K T.d_Lneat_wanted ["_law_lines", "_law_ladder"] []
  F_Ltruths : Fun K "_law_truths" "_law_truths" s_Ltruths T.f_Ltruths T.d_Ltruths
  m_Ltruths : mg "_law_truths" = some (.ref T.f_Ltruths)
  b_Ltruths : Binds K T.d_Ltruths ["_law_hand_here"] []
  F_Lgoal_facts : Fun K "_law_goal_facts" "_law_goal_facts" s_Lgoal_facts T.f_Lgoal_facts T.d_Lgoal_facts
  m_Lgoal_facts : mg "_law_goal_facts" = some (.ref T.f_Lgoal_facts)
  b_Lgoal_facts : Binds K T.d_Lgoal_facts ["_law_goals", "_law_ladder", "_law_wanted", "_law_known"] []
  F_Lmade : Fun K "_law_made" "_law_made" s_Lmade T.f_Lmade T.d_Lmade
  m_Lmade : mg "_law_made" = some (.ref T.f_Lmade)
  b_Lmade : Binds K T.d_Lmade ["_law_ladder", "_law_wanted", "_law_known"] []
  F_Lends_told : Fun K "_law_ends_told" "_law_ends_told" s_Lends_told T.f_Lends_told T.d_Lends_told
  m_Lends_told : mg "_law_ends_told" = some (.ref T.f_Lends_told)
  b_Lends_told : Binds K T.d_Lends_told ["_law_goals", "_law_couple"] []
  F_Lbad_ladder : Fun K "_law_bad_ladder" "_law_bad_ladder" s_Lbad_ladder T.f_Lbad_ladder T.d_Lbad_ladder
  m_Lbad_ladder : mg "_law_bad_ladder" = some (.ref T.f_Lbad_ladder)
  b_Lbad_ladder : Binds K T.d_Lbad_ladder ["_law_hand_here"] []
  F_Lbad_lines : Fun K "_law_bad_lines" "_law_bad_lines" s_Lbad_lines T.f_Lbad_lines T.d_Lbad_lines
  m_Lbad_lines : mg "_law_bad_lines" = some (.ref T.f_Lbad_lines)
  b_Lbad_lines : Binds K T.d_Lbad_lines ["_law_hand_here", "_law_lines"] []
  F_Lbad_ends : Fun K "_law_bad_ends" "_law_bad_ends" s_Lbad_ends T.f_Lbad_ends T.d_Lbad_ends
  m_Lbad_ends : mg "_law_bad_ends" = some (.ref T.f_Lbad_ends)
  b_Lbad_ends : Binds K T.d_Lbad_ends ["_law_hand_here", "_law_ladder"] []
  F_Lbad_knows : Fun K "_law_bad_knows" "_law_bad_knows" s_Lbad_knows T.f_Lbad_knows T.d_Lbad_knows
  m_Lbad_knows : mg "_law_bad_knows" = some (.ref T.f_Lbad_knows)
  b_Lbad_knows : Binds K T.d_Lbad_knows ["_law_hand_here"] []
  F_Lunlike_ends : Fun K "_law_unlike_ends" "_law_unlike_ends" s_Lunlike_ends T.f_Lunlike_ends T.d_Lunlike_ends
  m_Lunlike_ends : mg "_law_unlike_ends" = some (.ref T.f_Lunlike_ends)
  b_Lunlike_ends : Binds K T.d_Lunlike_ends ["_law_hand_here", "_law_ends_here", "_law_ladder"] []
  F_Lrefused : Fun K "_law_refused" "_law_refused" s_Lrefused T.f_Lrefused T.d_Lrefused
  m_Lrefused : mg "_law_refused" = some (.ref T.f_Lrefused)
  b_Lrefused : Binds K T.d_Lrefused ["_law_hand_here", "_law_sides", "_law_ladder", "_law_lines", "_law_known"] []
  F_law : Fun K "law" "law" s_law T.f_law T.d_law
  m_law : mg "law" = some (.ref T.f_law)
  b_law : Binds K T.d_law ["_law_script"] []
  m_CallError : mg "CallError" = some (.ref T.C_CallError)
  e_CallError : Jv.ExcP K T.C_CallError
  m_BadGoals : mg "BadGoals" = some (.ref T.C_BadGoals)
  x_BadGoals : Jv.ExcI K T.C_BadGoals T.f_BadGoalsu_initu
  m_BadCouple : mg "BadCouple" = some (.ref T.C_BadCouple)
  e_BadCouple : Jv.ExcP K T.C_BadCouple
  m_Goals : mg "Goals" = some (.ref T.C_Goals)
  o_Goals : Cls K T.C_Goals
  k_Goals : Mk K T.C_Goals T.f_Goalsu_initu
  h_Goalsu_equ : Meth K T.C_Goals "__eq__" T.f_Goalsu_equ
  h_Goals_ends_for : Meth K T.C_Goals "ends_for" T.f_Goals_ends_for
  i_Goals_ca : PySem.W.findIn K (.ref T.C_Goals) "__class__" = some (some (.builtin "object.__class__"))
  i_Goals_cn : PySem.W.specialIn K (.builtin "object.__class__") "__get__" = some (some (.builtin "getset_descriptor.__get__"))
  i_Goals_ct : PySem.W.takesIn K (.builtin "object.__class__") = some true
  i_Goals_cm : PySem.W.mroIn K T.C_Goals (.type "object") = some true
  i_Goals_kt : PySem.W.kitOne K (.type "tuple") (.ref T.C_Goals) = some false
  i_Goals_nt : PySem.W.notFirst K T.C_Goals (.type "tuple") = true
  i_Goals_ne : PySem.W.findIn K (.ref T.C_Goals) "__ne__" = some (some (.builtin "object.__ne__"))
  n_Goals_ladder : NoAttr K T.C_Goals "ladder"
  n_Goals_wanted : NoAttr K T.C_Goals "wanted"
  n_Goals_knows : NoAttr K T.C_Goals "knows"
  n_Goals_sides : NoAttr K T.C_Goals "sides"
  z_ValueError : mg "ValueError" = none
  z_abs : mg "abs" = none
  z_all : mg "all" = none
  z_bool : mg "bool" = none
  z_enumerate : mg "enumerate" = none
  z_int : mg "int" = none
  z_isinstance : mg "isinstance" = none
  z_len : mg "len" = none
  z_list : mg "list" = none
  z_min : mg "min" = none
  z_range : mg "range" = none
  z_repr : mg "repr" = none
  z_set : mg "set" = none
  z_sorted : mg "sorted" = none
  z_staticmethod : mg "staticmethod" = none
  z_tuple : mg "tuple" = none
  c_EAST : mg "EAST" = some (.int (0) T.t_EAST)
  c_WEST : mg "WEST" = some (.int (1) T.t_WEST)
  c_LADDER_MOST : mg "LADDER_MOST" = some (.int (6) T.t_LADDER_MOST)
  c_KINDS_MOST : mg "KINDS_MOST" = some (.int (6) T.t_KINDS_MOST)
  c_COUPLES_MOST : mg "COUPLES_MOST" = some (.int (12) T.t_COUPLES_MOST)
  n_BadGoals_what : PySem.W.findIn K (.ref T.C_BadGoals) "what" = some none
  kb3_knows_Goalsu_initu : KBn K T.d_Goalsu_initu ["self", "ladder", "wanted", "knows"] 3 ["knows"] (fun us ws => us ++ ws) (fun vs zs => vs ++ zs)
end K02

namespace K02
open PySem PySem.Spec PyProof.Rows L2
/-! ### the law's draws: any number below the bound may come -/
def sp_Lmix : Sp := fun vs H Q _ => ∃ n t : Int, vs = [.int n, .int t] ∧ (0 ≤ n ∧ n < 2147483648 ∧ 0 ≤ t ∧ t ≤ 1000) ∧ ∀ r : Int, 0 ≤ r → r < 134217728 → Q (.int r) H
theorem mix_end (z : Int) : 0 ≤ z % 2147483563 / 16 ∧ z % 2147483563 / 16 < 134217728 := by omega
section
variable {P : Program} {w : World} {K : PySem.W.Frag} {mg : Str → Option Value} {base : Heap}
theorem ok_Lmix (T : Tx) (O : Ok K mg T) : FnOk P w K mg base CX0 1 T.f_Lmix T.d_Lmix ["_law_number", "_law_turn"] sp_Lmix := by
  refine O.F_Lmix.ok sc_Lmix (fun vs H Q E h => by obtain ⟨n, t, rfl, _⟩ := h; rfl) (fun cdv A outer s H vs Q E hr h => ?_)
  obtain ⟨n, t, rfl, ⟨h1, h2, h3, h4⟩, q⟩ := h
  refine ⟨_, (pss_cons (ps_set (i := 2) sc_Lmix.nd rfl (Or.inl rfl) (pe_op op_mod (pe_callTy (r := Jv.rInt) Jv.cr_int (by rfl) O.z_int (by decide +kernel) (pa_cons (pe_op op_add (pe_op op_add (pe_op op_mul (pv 0) pe_int) (pe_op op_mul (pv 1) pe_int)) pe_int) pa_nil)) pe_int))
  (pss_cons (ps_set (i := 3) sc_Lmix.nd rfl (Or.inl rfl) (pe_op op_mod (pe_callTy (r := Jv.rInt) Jv.cr_int (by rfl) O.z_int (by decide +kernel) (pa_cons (pe_op op_add (pe_op op_add (pe_op op_mul (pv 2) (pv 2)) (pe_op op_mul (pe_op op_fdivW (pv 2) pe_int) pe_int)) (pe_op op_mul (pv 1) pe_int)) pa_nil)) pe_int))
  (pss_one (ps_ret (pe_op op_fdivW (pe_op op_mod (pe_callTy (r := Jv.rInt) Jv.cr_int (by rfl) O.z_int (by decide +kernel) (pa_cons (pe_op op_add (pe_op op_fdivW (pe_op op_mul (pv 3) (pv 3)) pe_int) (pv 2)) pa_nil)) pe_int) pe_int))))), ?_⟩
  walk_at "r"
  exact q _ (mix_end _).1 (mix_end _).2
end
end K02

namespace Jv
open PySem PySem.Spec PyProof.Rows L2
/-! ### the hand: numbers still to be used, a place, a rest, a total -/
structure HandAt (H : Hp) (p l : Addr) (ns : List Int) (k c t : Int) : Prop where
  hp : H p = some (.lst [.ref l, .int k, .int c, .int t])
  hl : H l = some (.lst (ns.map V.int))
  nn : ∀ n ∈ ns, 0 ≤ n
  few : ns.length ≤ 63
  bd : 0 ≤ k ∧ k ≤ ns.length ∧ 0 ≤ c ∧ 0 ≤ t ∧ t < 2147483629
def Hand (H : Hp) (p l : Addr) : Prop := ∃ ns k c t, HandAt H p l ns k c t
theorem HandAt.ne {H : Hp} {p l : Addr} {ns : List Int} {k c t : Int} (h : HandAt H p l ns k c t) : l ≠ p := fun e => by
  have q := h.hp
  rw [← e, h.hl] at q
  have q2 := HO.lst.inj (Option.some.inj q)
  cases ns with
  | nil => cases q2
  | cons a r => cases q2
/-- all but what stands at p is as it was -/
def Kp (p : Addr) (H H' : Hp) : Prop := ∀ b o, b ≠ p → H b = some o → H' b = some o
theorem Kp.refl {p : Addr} {H : Hp} : Kp p H H := fun _ _ _ e => e
theorem Kp.trans {p : Addr} {H H1 H2 : Hp} (a : Kp p H H1) (b : Kp p H1 H2) : Kp p H H2 := fun c o n e => b c o n (a c o n e)
theorem Kp.same {p : Addr} {H H' : Hp} (a : Same H H') : Kp p H H' := fun c o _ e => a c o e
theorem Kp.upd {p : Addr} {H : Hp} {o : HO} : Kp p H (upd H p o) := fun c u n e => by rw [upd_ne n]; exact e
theorem Kp.new {p q : Addr} {H : Hp} {o : HO} (n : H q = none) : Kp p H (L2.upd H q o) := Kp.same (same_new n)
theorem Hand.same {H H' : Hp} {p l : Addr} (h : Hand H p l) (s : Same H H') : Hand H' p l := by
  obtain ⟨ns, k, c, t, h⟩ := h
  exact ⟨ns, k, c, t, s _ _ h.hp, s _ _ h.hl, h.nn, h.few, h.bd⟩
theorem Hand.at {H : Hp} {p l : Addr} (h : Hand H p l) : ∃ o, H p = some o := by
  obtain ⟨ns, k, c, t, h⟩ := h
  exact ⟨_, h.hp⟩
theorem Hand.set {H : Hp} {p l : Addr} {ns : List Int} {k c t k' c' t' : Int} (h : HandAt H p l ns k c t) (b : 0 ≤ k' ∧ k' ≤ ns.length ∧ 0 ≤ c' ∧ 0 ≤ t' ∧ t' < 2147483629) :
    HandAt (upd H p (.lst [.ref l, .int k', .int c', .int t'])) p l ns k' c' t' :=
  ⟨upd_same, by rw [upd_ne h.ne]; exact h.hl, h.nn, h.few, b⟩
end Jv
namespace K02
open PySem PySem.Spec PyProof.Rows L2
def sp_Lhand (K : PySem.W.Frag) : Sp := fun vs H Q _ => ∃ (a : Addr) (ns : List Int), vs = [.ref a] ∧ SqL K H a (ns.map V.int) ∧ ns.length ≤ 63 ∧ ∀ p l H', Same H H' → H p = none → Jv.Hand H' p l → Q (.ref p) H'
section
variable {P : Program} {w : World} {K : PySem.W.Frag} {mg : Str → Option Value} {base : Heap}
theorem ok_Lhand (T : Tx) (O : Ok K mg T) : FnOk P w K mg base CX0 1 T.f_Lhand T.d_Lhand ["_law_script"] (sp_Lhand K) := by
  refine O.F_Lhand.ok sc_Lhand (fun vs H Q E h => by obtain ⟨a, ns, rfl, _⟩ := h; rfl) (fun cdv A outer s H vs Q E hr h => ?_)
  obtain ⟨a, ns, rfl, hS, few, q⟩ := h
  refine ⟨_, (pss_cons (ps_set (i := 1) sc_Lhand.nd rfl (Or.inl rfl) pe_int)
  (pss_cons (ps_for PassesOwn.never rfl (show PI _ _ _ (iEnum K _) from pi_enum (by rfl) O.z_enumerate (pa_cons (pv 0) pa_nil)) (pg_tup rfl (pgs_cons (pg_name (i := 2) sc_Lhand.nd rfl (Or.inl rfl)) (pgs_cons (pg_name (i := 3) sc_Lhand.nd rfl (Or.inl rfl)) pgs_nil))) (pss_one (ps_set (i := 1) sc_Lhand.nd rfl (Or.inl rfl) (pe_op op_mod (pe_callTy (r := Jv.rInt) Jv.cr_int (by rfl) O.z_int (by decide +kernel) (pa_cons (pe_op op_add (pe_op op_mul (pv 1) pe_int) (pe_op op_mul (pe_callTy (r := Jv.rInt) Jv.cr_int (by rfl) O.z_int (by decide +kernel) (pa_cons (pv 3) pa_nil)) (pe_op op_add (pv 2) pe_int))) pa_nil)) pe_int))))
  (pss_one (ps_ret (pe_lst (pa_cons (pe_lc (own := [("_law_cell", 3)]) (by rfl) sc_Lhand.nd (show PI _ _ _ (iList K _) from pi_list (pv 0)) (blkOk_by (own := [("_law_cell", 3)]) (N := ["_law_script", "_law_total", "_law_k", "_law_cell"]) (sc := defScope s_Lhand) (scope := ({ kind := .function, names := [(".0", .local), ("_law_cell", .local), ("abs", .globalImplicit), ("int", .globalImplicit)], isGenerator := false, isCoroutine := false } : Scope)) (by decide +kernel)) (fun _ _ _ _ _ => (pg_name (i := 3) sc_Lhand.nd rfl (Or.inl rfl))) (fun _ _ _ _ _ => pts_nil) (fun _ _ _ _ _ => (pe_callB (r := Jv.rAbs) Jv.cr_abs (by rfl) O.z_abs (by decide +kernel) (pa_cons (pe_callTy (r := Jv.rInt) Jv.cr_int (by rfl) O.z_int (by decide +kernel) (pa_cons (pv 3) pa_nil)) pa_nil)))) (pa_cons pe_int (pa_cons pe_int (pa_cons (pv 1) pa_nil))))))))), ?_⟩
  walk_at "r"
  refine ⟨_, _, rfl, hS, ?_⟩
  refine for_it (walk_enum (K := K) (a := a) (xs := ns.map V.int)) (fun i σ H' => ∃ y2 y3 tot, σ = [some (.ref a), some (.int tot), y2, y3] ∧ (0 ≤ tot ∧ tot < 2147483629) ∧ Same H H') ⟨_, _, 0, rfl, by decide, fun _ _ e => e⟩ (fun i σ H' _ ⟨_, _, _, _, _, sm⟩ => sm.seq hS) ?_ ?_
  · rintro i x σ H1 H2 hi ⟨y2, y3, tot, rfl, hb, sm⟩ ⟨p, x1, x2, rfl, hp, rfl, hx, hy⟩
    cases hx
    obtain ⟨z, hz, rfl⟩ := Jv.map_at (show (ns.map V.int)[i]? = some x2 from hy)
    rw [List.length_map] at hi
    walk_at "r"
    exact ⟨_, _, _, rfl, by omega, sm.trans (Jv.same_new hp)⟩
  · rintro σ H' ⟨y2, y3, tot, rfl, hb, sm⟩
    walk_at "r"
    refine ⟨_, rfl, _, rfl, ⟨_, sm.seq hS⟩, fun p hp => ?_⟩
    refine lc_it (walk_list (K := K) (a := a) (xs := ns.map V.int)) (fun i H1 => ∃ zs : List Int, Same H H1 ∧ H1 p = some (.lst (zs.map V.int)) ∧ zs.length = i ∧ ∀ z ∈ zs, 0 ≤ z) ⟨[], sm.trans (Jv.same_new hp), upd_same, rfl, by simp⟩ (fun i H1 _ ⟨_, s1, _⟩ => s1.seq hS) ?_ ?_
    · rintro i x H1 H2 hi ⟨zs, s1, e1, hl, nn⟩ ⟨rfl, hx⟩
      obtain ⟨z, hz, rfl⟩ := Jv.map_at hx
      rw [List.length_map] at hi
      walk_at "r"
      refine ⟨zs.map V.int, e1, ?_, zs ++ [if z < 0 then -z else z], ?_, ?_, ?_, ?_⟩
      · rw [List.length_map, hl]; exact Jv.small_lt (by omega)
      · intro b o e; exact Jv.kpO (s1 b o e) (ne_of_none (sm b o e) hp)
      · rw [upd_same, List.map_append]; rfl
      · rw [List.length_append, hl]; rfl
      · intro y hy
        rcases List.mem_append.mp hy with hy | hy
        · exact nn y hy
        · rw [List.mem_singleton.mp hy]; split <;> omega
    · rintro H1 ⟨zs, s1, e1, hl, nn⟩
      walk_at "r"
      intro p2 hp2
      rw [List.length_map] at hl
      exact q p2 p _ (s1.trans (Jv.same_new hp2)) (s1.free hp2) ⟨zs, 0, 0, tot, upd_same, Jv.kp e1 hp2, nn, by omega, by omega⟩
end
end K02

namespace K02
open PySem PySem.Spec PyProof.Rows L2
def sp_Ldraw : Sp := fun vs H Q _ => ∃ (p l : Addr) (m : Int), vs = [.ref p, .int m] ∧ Jv.Hand H p l ∧ (0 < m ∧ m.natAbs.log2 < 9000) ∧ ∀ r H', 0 ≤ r → r < m → Jv.Kp p H H' → Jv.Hand H' p l → Q (.int r) H'
section
variable {P : Program} {w : World} {K : PySem.W.Frag} {mg : Str → Option Value} {base : Heap}
theorem ok_Ldraw (T : Tx) (O : Ok K mg T) : FnOk P w K mg base CX0 2 T.f_Ldraw T.d_Ldraw ["_law_hand_here", "_law_many"] sp_Ldraw := by
  refine O.F_Ldraw.ok sc_Ldraw (fun vs H Q E h => by obtain ⟨_, _, _, rfl, _⟩ := h; rfl) (fun cdv A outer s H vs Q E hr h => ?_)
  obtain ⟨p, l, m, rfl, ⟨ns, k, c, t, hA⟩, ⟨m0, m1⟩, q⟩ := h
  obtain ⟨hp, hl, nn, few, b1, b2, b3, b4, b5⟩ := id hA
  have nlp := hA.ne
  have e0 : ∀ z : Int, 0 ≤ z % m := fun z => Int.emod_nonneg _ (by omega)
  have e1 : ∀ z : Int, z % m < m := fun z => Int.emod_lt_of_pos _ m0
  refine ⟨_, (C8.pss_cut (ps_if (PW.pt (pw_and (pt_cmpR op_eq (pe_ix (r := rIxL K) ix_list (pv 0) pe_int (fun _ _ => rfl)) pe_int (nomark _)) (pw_and1 (pt_cmpR op_lt (pe_ix (r := rIxL K) ix_list (pv 0) pe_int (fun _ _ => rfl)) (pe_callB (r := Jv.rLenK K) Jv.cr_len (by rfl) O.z_len (by decide +kernel) (pa_cons (pe_ix (r := rIxL K) ix_list (pv 0) pe_int (fun _ _ => rfl)) pa_nil)) (nomark _))))) (pss_cons (ps_set (i := 2) sc_Ldraw.nd rfl (Or.inl rfl) (pe_ix (r := rIxL K) ix_list (pe_ix (r := rIxL K) ix_list (pv 0) pe_int (fun _ _ => rfl)) (pe_ix (r := rIxL K) ix_list (pv 0) pe_int (fun _ _ => rfl)) (fun _ _ => rfl)))
  (pss_cons (ps_asg (pe_op op_add (pe_ix (r := rIxL K) ix_list (pv 0) pe_int (fun _ _ => rfl)) pe_int) (pg_sub (pv 0) pe_int set_list))
  (pss_cons (ps_if (pt_cmpR op_lt (pv 2) (pe_op op_pow pe_int pe_int) (nomark _)) (pss_one (ps_ret (pe_op op_mod (pe_callTy (r := Jv.rInt) Jv.cr_int (by rfl) O.z_int (by decide +kernel) (pa_cons (pe_call (ok_Lmix T O) (hr.mono (by decide)) (by rfl) O.m_Lmix O.F_Lmix.kp O.b_Lmix .nil pass0 (pa_cons (pe_op op_mod (pe_callTy (r := Jv.rInt) Jv.cr_int (by rfl) O.z_int (by decide +kernel) (pa_cons (pv 2) pa_nil)) pe_int) (pa_cons (pe_ix (r := rIxL K) ix_list (pv 0) pe_int (fun _ _ => rfl)) pa_nil))) pa_nil)) (pv 1)))) pss_nil)
  (pss_one (ps_asg (pv 2) (pg_sub (pv 0) pe_int set_list)))))) pss_nil)
  (pss_cons (ps_if (pt_cmpR op_gt (pe_ix (r := rIxL K) ix_list (pv 0) pe_int (fun _ _ => rfl)) pe_int (nomark _)) (pss_cons (ps_set (i := 3) sc_Ldraw.nd rfl (Or.inl rfl) (pe_ix (r := rIxL K) ix_list (pv 0) pe_int (fun _ _ => rfl)))
  (pss_cons (ps_asg (pe_op op_fdivW (pv 3) (pv 1)) (pg_sub (pv 0) pe_int set_list))
  (pss_one (ps_ret (pe_op op_mod (pe_callTy (r := Jv.rInt) Jv.cr_int (by rfl) O.z_int (by decide +kernel) (pa_cons (pv 3) pa_nil)) (pv 1)))))) pss_nil)
  (pss_cons (ps_asg (pe_op op_mod (pe_callTy (r := Jv.rInt) Jv.cr_int (by rfl) O.z_int (by decide +kernel) (pa_cons (pe_op op_add (pe_ix (r := rIxL K) ix_list (pv 0) pe_int (fun _ _ => rfl)) pe_int) pa_nil)) pe_int) (pg_sub (pv 0) pe_int set_list))
  (pss_one (ps_ret (pe_op op_mod (pe_callTy (r := Jv.rInt) Jv.cr_int (by rfl) O.z_int (by decide +kernel) (pa_cons (pe_call (ok_Lmix T O) (hr.mono (by decide)) (by rfl) O.m_Lmix O.F_Lmix.kp O.b_Lmix .nil pass0 (pa_cons (pe_ix (r := rIxL K) ix_list (pv 0) pe_int (fun _ _ => rfl)) (pa_cons (pe_ix (r := rIxL K) ix_list (pv 0) pe_int (fun _ _ => rfl)) pa_nil))) pa_nil)) (pv 1))))))), ?_⟩
  refine ⟨fun σ' H' => ∃ k c t y2 y3, σ' = [some (.ref p), some (.int m), y2, y3] ∧ Jv.HandAt H' p l ns k c t ∧ Jv.Kp p H H', ?_, ?_⟩
  · walk_at "r"
    refine Jv.r_decI (fun hc => ?_) (fun hc => ?_)
    · walk_at "r"
      refine Jv.r_dec (fun hk => ?_) (fun hk => ?_)
      · rw [List.length_map] at hk
        have hk2 : k.toNat < ns.length := by omega
        have at1 : atI (ns.map V.int) k = some (.int ns[k.toNat]) := Jv.at_i b1 (Jv.map_get hk2)
        have n0 := nn ns[k.toNat] (List.getElem_mem _)
        generalize ns[k.toNat] = z at at1 n0
        walk_at "r"
        refine' Jv.r_ixL ?hs at1 ?_
        case hs => walk_at "sq"
        walk_at "r"
        refine Jv.r_dec (fun hz => ?_) (fun hz => ?_)
        · walk_at "r"
          refine ⟨_, _, rfl, ⟨by omega, by omega, by omega, by omega⟩, fun r h1 h2 => ?_⟩
          walk_at "r"
          exact q _ _ (e0 _) (e1 _) Jv.Kp.upd ⟨_, _, _, _, Jv.Hand.set hA ⟨by omega, by omega, b3, b4, b5⟩⟩
        · walk_at "r"
          exact ⟨k + 1, z, t, _, _, rfl, Jv.Hand.set (Jv.Hand.set hA ⟨by omega, by omega, b3, b4, b5⟩) ⟨by omega, by omega, n0, b4, b5⟩, Jv.Kp.upd.trans Jv.Kp.upd⟩
      · walk_at "r"
        exact ⟨k, c, t, _, _, rfl, hA, Jv.Kp.refl⟩
    · walk_at "r"
      exact ⟨k, c, t, _, _, rfl, hA, Jv.Kp.refl⟩
  · rintro σ' H' ⟨k, c, t, y2, y3, rfl, hB, kp⟩
    obtain ⟨hp, hl, nn, few, b1, b2, b3, b4, b5⟩ := id hB
    walk_at "r"
    refine Jv.r_dec (fun hc => ?_) (fun hc => ?_)
    · walk_at "r"
      refine q _ _ (e0 _) (e1 _) (kp.trans Jv.Kp.upd) ⟨_, _, _, _, Jv.Hand.set hB ⟨b1, b2, Int.ediv_nonneg b3 (by omega), b4, b5⟩⟩
    · walk_at "r"
      refine ⟨_, _, rfl, ⟨by omega, by omega, b1, by omega⟩, fun r h1 h2 => ?_⟩
      walk_at "r"
      exact q _ _ (e0 _) (e1 _) (kp.trans Jv.Kp.upd) ⟨_, _, _, _, Jv.Hand.set hB ⟨b1, b2, b3, by omega, by omega⟩⟩
end
end K02

namespace K02
open PySem PySem.Spec PyProof.Rows L2
def sp_Lis : Sp := fun vs H Q _ => ∃ a b, vs = [.bl a, .bl b] ∧ Q (.bl (decide (a = b))) H
def sp_Lwide_sides : Sp := fun vs H Q _ => ∃ h l, vs = [.ref h] ∧ Jv.Hand H h l ∧ ∀ r p q H', ((1 ≤ p ∧ p ≤ 6) ∧ (1 ≤ q ∧ q ≤ 6) ∧ p * q ≤ 12) → Jv.Kp h H H' → Jv.Hand H' h l → H' r = some (.tup [.int p, .int q]) → Q (.ref r) H'
theorem m_bound {p : Int} (h0 : 0 ≤ p) (h1 : p < 6) : 0 < (if 12 / (1 + p) < 6 then 12 / (1 + p) else 6) ∧ (if 12 / (1 + p) < 6 then 12 / (1 + p) else 6) < 2 ^ 200 := by
  have : p = 0 ∨ p = 1 ∨ p = 2 ∨ p = 3 ∨ p = 4 ∨ p = 5 := by omega
  rcases this with rfl | rfl | rfl | rfl | rfl | rfl <;> decide
theorem q_bound {p q : Int} (h0 : 0 ≤ p) (h1 : p < 6) (q0 : 0 ≤ q) (h : q < if 12 / (1 + p) < 6 then 12 / (1 + p) else 6) : (1 ≤ 1 + q ∧ 1 + q ≤ 6) ∧ (1 + p) * (1 + q) ≤ 12 ∧ (1 + q) * (1 + p) ≤ 12 := by
  have : p = 0 ∨ p = 1 ∨ p = 2 ∨ p = 3 ∨ p = 4 ∨ p = 5 := by omega
  rcases this with rfl | rfl | rfl | rfl | rfl | rfl <;> simp at h <;> omega
section
variable {P : Program} {w : World} {K : PySem.W.Frag} {mg : Str → Option Value} {base : Heap}
theorem ok_Lis (T : Tx) (O : Ok K mg T) : FnOk P w K mg base CX0 1 T.f_Lis T.d_Lis ["_law_thing", "_law_due"] sp_Lis := by
  refine O.F_Lis.ok sc_Lis (fun vs H Q E h => by obtain ⟨_, _, rfl, _⟩ := h; rfl) (fun cdv A outer s H vs Q E hr h => ?_)
  obtain ⟨a, b, rfl, k⟩ := h
  refine ⟨_, (pss_one (ps_ret (pe_and (pe_callB (r := rIsi K) call_isi (by rfl) O.z_isinstance (by decide +kernel) (pa_cons (pv 0) (pa_cons (pe_bltn (v := .ty "bool") (by rfl) O.z_bool (by decide +kernel) rfl) pa_nil))) (pe_one (pe_cmpR op_eq (pv 0) (pv 1) (nomark _)))))), ?_⟩
  walk_at "r"
  have e : decide (V.bl a = V.bl b) = decide (a = b) := by cases a <;> cases b <;> rfl
  rw [e]; exact k
theorem ok_Lwide_sides (T : Tx) (O : Ok K mg T) : FnOk P w K mg base CX0 3 T.f_Lwide_sides T.d_Lwide_sides ["_law_hand_here"] sp_Lwide_sides := by
  refine O.F_Lwide_sides.ok sc_Lwide_sides (fun vs H Q E h => by obtain ⟨_, _, rfl, _⟩ := h; rfl) (fun cdv A outer s H vs Q E hr h => ?_)
  obtain ⟨h, l, rfl, hh, k⟩ := h
  refine ⟨_, (pss_cons (ps_set (i := 1) sc_Lwide_sides.nd rfl (Or.inl rfl) (pe_op op_add pe_int (pe_call (ok_Ldraw T O) (hr.mono (by decide)) (by rfl) O.m_Ldraw O.F_Ldraw.kp O.b_Ldraw .nil pass0 (pa_cons (pv 0) (pa_cons pe_int pa_nil)))))
  (pss_cons (ps_set (i := 2) sc_Lwide_sides.nd rfl (Or.inl rfl) (pe_op op_add pe_int (pe_call (ok_Ldraw T O) (hr.mono (by decide)) (by rfl) O.m_Ldraw O.F_Ldraw.kp O.b_Ldraw .nil pass0 (pa_cons (pv 0) (pa_cons (pe_callB (r := Jv.rMin2) (call_min2 rfl) (by rfl) O.z_min (by decide +kernel) (pa_cons pe_int (pa_cons (pe_op op_fdivW pe_int (pv 1)) pa_nil))) pa_nil)))))
  (pss_one (ps_ret (pe_ifExp (pt_cmpR op_eq (pe_call (ok_Ldraw T O) (hr.mono (by decide)) (by rfl) O.m_Ldraw O.F_Ldraw.kp O.b_Ldraw .nil pass0 (pa_cons (pv 0) (pa_cons pe_int pa_nil))) pe_int (nomark _)) (pe_tup (pa_cons (pv 1) (pa_cons (pv 2) pa_nil))) (pe_ifExp (pt_cmpR op_gt (pv 2) pe_int (nomark _)) (pe_tup (pa_cons (pv 2) (pa_cons (pv 1) pa_nil))) (pe_tup (pa_cons (pv 1) (pa_cons (pv 2) pa_nil))))))))), ?_⟩
  walk_at "r"
  refine ⟨h, l, _, rfl, hh, ⟨by decide, Jv.log_small (by decide) (by decide)⟩, fun p H1 p0 p1 k1 h1 => ?_⟩
  walk_at "r"
  have mb := m_bound p0 p1
  refine ⟨h, l, _, rfl, h1, ⟨mb.1, Jv.log_small mb.1 mb.2⟩, fun q H2 q0 q1 k2 h2 => ?_⟩
  have qb := q_bound p0 p1 q0 q1
  walk_at "r"
  refine ⟨h, l, _, rfl, h2, ⟨by decide, Jv.log_small (by decide) (by decide)⟩, fun r H3 r0 r1 k3 h3 => ?_⟩
  have kk := (k1.trans k2).trans k3
  walk_at "r"
  refine Jv.r_decI (fun _ => ?_) (fun _ => ?_)
  · walk_at "r"
    intro t ht
    exact k t _ _ _ ⟨by omega, qb.1, qb.2.1⟩ (kk.trans (Jv.Kp.new ht)) (h3.same (Jv.same_new ht)) upd_same
  · walk_at "rr"
    intro t ht
    exact k t _ _ _ ⟨qb.1, by omega, qb.2.2⟩ (kk.trans (Jv.Kp.new ht)) (h3.same (Jv.same_new ht)) upd_same
end
end K02

namespace K02
open PySem PySem.Spec PyProof.Rows L2
/-! ### basics, of data -/
def sp_is_whole (K : PySem.W.Frag) : Sp := fun vs H Q _ => ∃ x d lo hi, vs = [x, lo, hi] ∧ Jv.Dv K H x d ∧ Jv.Bd lo ∧ Jv.Bd hi ∧ Q (.bl (Jv.wholeV x lo hi)) H
def sp_is_sequence (K : PySem.W.Frag) : Sp := fun vs H Q _ => ∃ x d, vs = [x] ∧ Jv.Dv K H x d ∧ ∀ H', Same H H' → Q (.bl (Jv.seqD d).isSome) H'
def sp_is_truth (K : PySem.W.Frag) : Sp := fun vs H Q _ => ∃ x d, vs = [x] ∧ Jv.Dv K H x d ∧ Q (.bl (Jv.boolD d)) H
def sp_are_sides (K : PySem.W.Frag) : Sp := fun vs H Q _ => ∃ x d, vs = [x] ∧ Jv.Dv K H x d ∧ ∀ H', Same H H' → Q (.bl (Jv.sidesD d)) H'
def sp_are_ends (K : PySem.W.Frag) : Sp := fun vs H Q _ => ∃ x d l, vs = [x, .int l] ∧ Jv.Dv K H x d ∧ Jv.few1 d ∧ ∀ H', Same H H' → Q (.bl (Jv.endsD l d)) H'
def sp_is_knowing (K : PySem.W.Frag) : Sp := fun vs H Q _ => ∃ x d, vs = [x] ∧ Jv.Dv K H x d ∧ ∀ H', Same H H' → Q (.bl (Jv.knowsD d)) H'
section
variable {P : Program} {w : World} {K : PySem.W.Frag} {mg : Str → Option Value} {base : Heap}
theorem ok_is_whole (T : Tx) (O : Ok K mg T) : FnOk P w K mg base CX0 1 T.f_is_whole T.d_is_whole ["thing", "low", "high"] (sp_is_whole K) := by
  refine O.F_is_whole.ok sc_is_whole (fun vs H Q E h => by obtain ⟨_, _, _, _, rfl, _⟩ := h; rfl) (fun cdv A outer s H vs Q E hr h => ?_)
  obtain ⟨x, d, lo, hi, rfl, hx, hlo, hhi, q⟩ := h
  refine ⟨_, (pss_cons (ps_if (PW.pt (pw_or (pt_val (pe_callB (r := rIsi K) call_isi (by rfl) O.z_isinstance (by decide +kernel) (pa_cons (pv 0) (pa_cons (pe_bltn (v := .ty "bool") (by rfl) O.z_bool (by decide +kernel) rfl) pa_nil)))) (pw_or1 (pt_not (pt_val (pe_callB (r := rIsi K) call_isi (by rfl) O.z_isinstance (by decide +kernel) (pa_cons (pv 0) (pa_cons (pe_bltn (v := .ty "int") (by rfl) O.z_int (by decide +kernel) rfl) pa_nil)))))))) (pss_one (ps_ret pe_bl)) pss_nil)
  (pss_cons (ps_if (PW.pt (pw_and (pt_cmpR op_notN (pv 1) pe_non (nomark _)) (pw_and1 (pt_cmpR op_lt (pv 0) (pv 1) (nomark _))))) (pss_one (ps_ret pe_bl)) pss_nil)
  (pss_one (ps_ret (pe_or (pe_cmpR op_isN (pv 2) pe_non (nomark _)) (pe_one (pe_cmpR op_le (pv 0) (pv 2) (nomark _)))))))), ?_⟩
  walk_at "r"
  have hx2 := hx
  cases hx2 with
  | int i =>
    rcases hlo with rfl | ⟨a, rfl⟩
    · rcases hhi with rfl | ⟨b, rfl⟩ <;> walk_at "r" <;> exact q
    · by_cases h : i < a
      · rw [Jv.wholeV_lo0 h] at q
        walk_at "rr" <;> exact q
      · rw [Jv.wholeV_lo1 h] at q
        rcases hhi with rfl | ⟨b, rfl⟩ <;> walk_at "rr" <;> exact q
  | _ => walk_at "r"; exact q
theorem ok_is_sequence (T : Tx) (O : Ok K mg T) : FnOk P w K mg base CX0 1 T.f_is_sequence T.d_is_sequence ["thing"] (sp_is_sequence K) := by
  refine O.F_is_sequence.ok sc_is_sequence (fun vs H Q E h => by obtain ⟨_, _, rfl, _⟩ := h; rfl) (fun cdv A outer s H vs Q E hr h => ?_)
  obtain ⟨x, d, rfl, hx, q⟩ := h
  refine ⟨_, (pss_one (ps_ret (pe_callB (r := rIsiT K) call_isiT (by rfl) O.z_isinstance (by decide +kernel) (pa_cons (pv 0) (pa_cons (pe_tup (pa_cons (pe_bltn (v := .ty "list") (by rfl) O.z_list (by decide +kernel) rfl) (pa_cons (pe_bltn (v := .ty "tuple") (by rfl) O.z_tuple (by decide +kernel) rfl) pa_nil))) pa_nil))))), ?_⟩
  walk_at "r"
  intro p hp
  have hx2 := hx.same (Jv.same_new (u := .tup [.ty "list", .ty "tuple"]) hp)
  walk_at "r"
  exact q _ (Jv.same_new hp)
theorem ok_is_truth (T : Tx) (O : Ok K mg T) : FnOk P w K mg base CX0 1 T.f_is_truth T.d_is_truth ["thing"] (sp_is_truth K) := by
  refine O.F_is_truth.ok sc_is_truth (fun vs H Q E h => by obtain ⟨_, _, rfl, _⟩ := h; rfl) (fun cdv A outer s H vs Q E hr h => ?_)
  obtain ⟨x, d, rfl, hx, q⟩ := h
  refine ⟨_, (pss_one (ps_ret (pe_or (pe_cmpR (r := Jv.rIsT) Jv.op_isT (pv 0) pe_bl (nomark _)) (pe_one (pe_cmpR (r := Jv.rIsT) Jv.op_isT (pv 0) pe_bl (nomark _)))))), ?_⟩
  rw [← Jv.boolD_iff hx] at q
  walk_at "r"
  refine ⟨_, rfl, ?_⟩
  walk_at "r"
  by_cases e : x = .bl true
  · rw [decide_eq_true e] at q ⊢
    walk_at "r"; exact q
  · rw [decide_eq_false e] at q ⊢
    walk_at "r"
    refine ⟨_, rfl, q⟩
theorem ok_are_sides (T : Tx) (O : Ok K mg T) : FnOk P w K mg base CX0 2 T.f_are_sides T.d_are_sides ["thing"] (sp_are_sides K) := by
  refine O.F_are_sides.ok sc_are_sides (fun vs H Q E h => by obtain ⟨_, _, rfl, _⟩ := h; rfl) (fun cdv A outer s H vs Q E hr h => ?_)
  obtain ⟨x, d, rfl, hx, q⟩ := h
  refine ⟨_, (pss_cons (ps_if (PW.pt (pw_or (pt_not (pt_val (pe_call (ok_is_sequence T O) (hr.mono (by decide)) (by rfl) O.m_is_sequence O.F_is_sequence.kp O.b_is_sequence .nil pass0 (pa_cons (pv 0) pa_nil)))) (pw_or1 (pt_cmpR op_ne (pe_callB (r := Jv.rLenK K) Jv.cr_len (by rfl) O.z_len (by decide +kernel) (pa_cons (pv 0) pa_nil)) pe_int (nomark _))))) (pss_one (ps_ret pe_bl)) pss_nil)
  (pss_cons (ps_if (pt_not (pt_val (pe_callB (r := rAll K) (cr_all rfl) (by rfl) O.z_all (by decide +kernel) (pa_cons (pe_lc (own := [("kinds", 1)]) (by rfl) sc_are_sides.nd (Jv.piOr (show PI _ _ _ (iList K _) from pi_list (pv 0)) (show PI _ _ _ (iTup K _) from pi_tup (pv 0))) (blkOk_by (own := [("kinds", 1)]) (N := ["thing", "kinds"]) (sc := defScope s_are_sides) (scope := ({ kind := .function, names := [(".0", .local), ("kinds", .local), ("is_whole", .globalImplicit), ("KINDS_MOST", .globalImplicit)], isGenerator := false, isCoroutine := false } : Scope)) (by decide +kernel)) (fun _ _ _ _ _ => (pg_name (i := 1) sc_are_sides.nd rfl (Or.inl rfl))) (fun _ _ _ _ _ => pts_nil) (fun _ _ _ _ _ => (pe_call (ok_is_whole T O) (hr.mono (by decide)) (by rfl) O.m_is_whole O.F_is_whole.kp O.b_is_whole .nil pass0 (pa_cons (pv 1) (pa_cons pe_int (pa_cons (pe_glob (v := .int (6)) (by rfl) O.c_KINDS_MOST ⟨_, rfl⟩) pa_nil)))))) pa_nil)))) (pss_one (ps_ret pe_bl)) pss_nil)
  (pss_one (ps_ret (pe_cmpR op_le (pe_op op_mul (pe_ix (r := rIx K) ix_seq (pv 0) (pe_glob (v := .int (0)) (by rfl) O.c_EAST ⟨_, rfl⟩) (fun _ _ => rfl)) (pe_ix (r := rIx K) ix_seq (pv 0) (pe_glob (v := .int (1)) (by rfl) O.c_WEST ⟨_, rfl⟩) (fun _ _ => rfl))) (pe_glob (v := .int (12)) (by rfl) O.c_COUPLES_MOST ⟨_, rfl⟩) (nomark _)))))), ?_⟩
  walk_at "r"
  refine ⟨_, _, rfl, hx, fun H1 s1 => ?_⟩
  walk_at "r"
  cases e : Jv.seqD d with
  | none =>
    have e2 : Jv.sidesD d = false := by unfold Jv.sidesD; rw [e]
    rw [e2] at q
    walk_at "r"; exact q _ s1
  | some ds =>
    obtain ⟨xs, sq0, al⟩ := hx.sk e
    have sq := sq0.same s1
    have al1 := al.same s1
    walk_at "r"
    refine sq.len ?_
    walk_at "r"
    refine Jv.r_ndecI (fun hl => ?_) (fun hl => ?_)
    · have e2 : Jv.sidesD d = false := by
        unfold Jv.sidesD; rw [e]
        split
        · rename_i p q e3; cases e3; rw [al.len] at hl; exact absurd rfl hl
        · rfl
      rw [e2] at q
      walk_at "r"; exact q _ s1
    · walk_at "r"
      obtain ⟨y, z, rfl⟩ : ∃ y z, xs = [y, z] := by
        match xs, hl with
        | [y, z], _ => exact ⟨y, z, rfl⟩
        | [], h => simp at h
        | [_], h => simp at h
        | _ :: _ :: _ :: r, h => simp at h; omega
      cases al1 with
      | cons h1 al1 =>
      cases al1 with
      | cons h2 al1 =>
      cases al1
      rename_i d1 d2
      refine Jv.lcK (j := 1) (i := 0) rfl sq (fun v => .bl (Jv.wholeV v (.int 1) (.int 6))) (by simp) (fun v H2 m s2 P hP => ?_) (fun D H2 s2 hD eD => ?_)
      · walk_at "r"
        rcases List.mem_cons.mp m with rfl | m
        · exact ⟨_, _, _, _, rfl, h1.same s2, .inr ⟨_, rfl⟩, .inr ⟨_, rfl⟩, hP _ (Same.refl _)⟩
        · rw [List.mem_singleton.mp m]
          rw [List.mem_singleton.mp m] at hP
          exact ⟨_, _, _, _, rfl, h2.same s2, .inr ⟨_, rfl⟩, .inr ⟨_, rfl⟩, hP _ (Same.refl _)⟩
      · walk_at "r"
        refine Jv.r_all (f := fun v => Jv.wholeV v (.int 1) (.int 6)) eD ?_
        walk_at "r"
        have es : Jv.sidesD d = (match [d1, d2] with | [.int p, .int q] => decide ((1 ≤ p ∧ p ≤ 6) ∧ (1 ≤ q ∧ q ≤ 6) ∧ p * q ≤ 12) | _ => false) := by
          unfold Jv.sidesD; rw [e]
          exact (show ∀ a b : PyData, (match (some [a, b] : Option (List PyData)) with | some [.int p, .int q] => decide ((1 ≤ p ∧ p ≤ 6) ∧ (1 ≤ q ∧ q ≤ 6) ∧ p * q ≤ 12) | _ => false) = (match [a, b] with | [.int p, .int q] => decide ((1 ≤ p ∧ p ≤ 6) ∧ (1 ≤ q ∧ q ≤ 6) ∧ p * q ≤ 12) | _ => false) from fun a b => by cases a <;> cases b <;> rfl) d1 d2
        cases eb : [y, z].all fun v => Jv.wholeV v (.int 1) (.int 6) with
        | false =>
          have e2 : Jv.sidesD d = false := by
            rw [es]
            split
            · rename_i p q e3
              cases e3
              cases h1; cases h2
              refine decide_eq_false fun hh => ?_
              have : ([V.int p, V.int q].all fun v => Jv.wholeV v (.int 1) (.int 6)) = true := by
                simp [Jv.wholeV, Jv.loOk, Jv.hiOk]; omega
              rw [this] at eb; cases eb
            · rfl
          rw [e2] at q
          walk_at "r"; exact q _ (s1.trans s2)
        | true =>
          rw [List.all_cons, List.all_cons, Bool.and_eq_true, Bool.and_eq_true] at eb
          obtain ⟨p, rfl, p1, p2⟩ := Jv.wholeV_int eb.1
          obtain ⟨r, rfl, r1, r2⟩ := Jv.wholeV_int eb.2.1
          cases h1; cases h2
          have e2 : Jv.sidesD d = decide (p * r ≤ 12) := by
            rw [es]
            exact decide_eq_decide.mpr ⟨fun h => h.2.2, fun h => ⟨⟨p1, p2⟩, ⟨r1, r2⟩, h⟩⟩
          rw [e2] at q
          walk_at "r"
          refine (sq.same s2).ix (v := .int p) rfl ?_
          walk_at "r"
          refine (sq.same s2).ix (v := .int r) rfl ?_
          walk_at "r"
          exact q _ (s1.trans s2)
end
end K02

namespace K02
open PySem PySem.Spec PyProof.Rows L2
/-! ### ends, truths, lines -/
theorem _root_.Jv.tru_lst {K : PySem.W.Frag} {H : Hp} {a : Addr} {xs : List V} (h : H a = some (.lst xs)) : TruV K (.ref a) H (!xs.isEmpty) := .inl ⟨xs, Jv.sqL_at h, rfl⟩
theorem _root_.Jv.rep_all {n : Nat} {ns : List Nat} : (n :: ns).map (fun (k : Nat) => (k : Int)) = List.replicate (ns.length + 1) (n : Int) ↔ ns.all (fun m => decide (m = n)) = true := by
  rw [List.all_eq_true, List.map_cons, List.replicate_succ, List.cons.injEq]
  constructor
  · rintro ⟨_, h⟩ m hm
    have h2 : ((m : Nat) : Int) ∈ ns.map (fun (k : Nat) => (k : Int)) := List.mem_map.mpr ⟨m, hm, rfl⟩
    rw [h] at h2
    have := List.eq_of_mem_replicate h2
    exact decide_eq_true (by omega)
  · intro h
    refine ⟨rfl, List.eq_replicate_iff.mpr ⟨by simp, fun b hb => ?_⟩⟩
    obtain ⟨m, hm, rfl⟩ := List.mem_map.mp hb
    rw [of_decide_eq_true (h m hm)]
theorem _root_.Jv.flat_one {n : Nat} {v : V} : (List.replicate n [v]).flatten = List.replicate n v := by
  induction n with
  | zero => rfl
  | succ n ih => rw [List.replicate_succ, List.flatten_cons, ih]; rfl

def sp_sides_of_lines (K : PySem.W.Frag) : Sp := fun vs H Q _ => ∃ x d, vs = [x] ∧ Jv.Dv K H x d ∧ Jv.few2 d ∧
  (Jv.linesD d = none → ∀ H', Same H H' → Q .non H') ∧ (∀ p q, Jv.linesD d = some (p, q) → ∀ t H', Same H H' → H' t = some (.tup [.int p, .int q]) → Q (.ref t) H')
section
variable {P : Program} {w : World} {K : PySem.W.Frag} {mg : Str → Option Value} {base : Heap}
theorem ok_are_ends (T : Tx) (O : Ok K mg T) : FnOk P w K mg base CX0 2 T.f_are_ends T.d_are_ends ["thing", "ladder"] (sp_are_ends K) := by
  refine O.F_are_ends.ok sc_are_ends (fun vs H Q E h => by obtain ⟨_, _, _, rfl, _⟩ := h; rfl) (fun cdv A outer s H vs Q E hr h => ?_)
  obtain ⟨x, d, l, rfl, hx, fw, q⟩ := h
  refine ⟨_, (pss_one (ps_ret (pe_and (pe_call (ok_is_sequence T O) (hr.mono (by decide)) (by rfl) O.m_is_sequence O.F_is_sequence.kp O.b_is_sequence .nil pass0 (pa_cons (pv 0) pa_nil)) (pe_and (pe_cmpR op_gt (pe_callB (r := Jv.rLenK K) Jv.cr_len (by rfl) O.z_len (by decide +kernel) (pa_cons (pv 0) pa_nil)) pe_int (nomark _)) (pe_one (pe_callB (r := rAll K) (cr_all rfl) (by rfl) O.z_all (by decide +kernel) (pa_cons (pe_lc (own := [("end", 2)]) (by rfl) sc_are_ends.nd (Jv.piOr (show PI _ _ _ (iList K _) from pi_list (pv 0)) (show PI _ _ _ (iTup K _) from pi_tup (pv 0))) (blkOk_by (own := [("end", 2)]) (N := ["thing", "ladder", "end"]) (sc := defScope s_are_ends) (scope := ({ kind := .function, names := [(".0", .local), ("end", .local), ("is_whole", .globalImplicit), ("ladder", .free)], isGenerator := false, isCoroutine := false } : Scope)) (by decide +kernel)) (fun _ _ _ _ _ => (pg_name (i := 2) sc_are_ends.nd rfl (Or.inl rfl))) (fun _ _ _ _ _ => pts_nil) (fun _ _ _ _ _ => (pe_call (ok_is_whole T O) (hr.mono (by decide)) (by rfl) O.m_is_whole O.F_is_whole.kp O.b_is_whole .nil pass0 (pa_cons (pv 2) (pa_cons (pe_un un_neg (pv 1)) (pa_cons (pv 1) pa_nil)))))) pa_nil))))))), ?_⟩
  walk_at "r"
  refine ⟨_, _, rfl, hx, fun H1 s1 => ?_⟩
  walk_at "r"
  cases e : Jv.seqD d with
  | none =>
    have e2 : Jv.endsD l d = false := by unfold Jv.endsD; rw [e]
    rw [e2] at q
    walk_at "r"; exact q _ s1
  | some ds =>
    have fw1 := fw ds e
    obtain ⟨xs, sq0, al⟩ := hx.sk e
    have sq := sq0.same s1
    have al1 := al.same s1
    have ll := al.len
    have e2 : Jv.endsD l d = (decide (0 < ds.length) && ds.all fun e => Jv.wholeD e (.int (-l)) (.int l)) := by unfold Jv.endsD; rw [e]
    rw [e2] at q
    walk_at "r"
    refine sq.len ?_
    walk_at "r"
    refine Jv.r_dec (fun h0 => ?_) (fun h0 => ?_)
    · rw [decide_eq_true (p := 0 < ds.length) (by omega), Bool.true_and] at q
      walk_at "r"
      refine Jv.lcS2 (K := K) (N := []) (j := 2) (i := 0) rfl sq .nil (ds.map fun e => .bool (Jv.wholeD e (.int (-l)) (.int l))) (by rw [List.length_map]; omega) (by omega) (fun i v e' D H2 hi hv he s2 hN hD P hP => ?_) (fun D ys H2 s2 hD eD dv _ => ?_)
      · walk_at "r"
        obtain ⟨e0, h0e, hv2⟩ := al1.at hv
        rw [List.getElem?_map, h0e] at he
        obtain rfl := Option.some.inj he
        refine ⟨_, _, _, _, rfl, hv2.same s2, .inr ⟨_, rfl⟩, .inr ⟨_, rfl⟩, ?_⟩
        rw [hv2.whole]
        exact hP _ _ (Same.refl _) (.bl _)
      · walk_at "r"
        rw [Jv.hide_nil, show (ds.map fun e => PyData.bool (Jv.wholeD e (.int (-l)) (.int l))) = (ds.map fun e => Jv.wholeD e (.int (-l)) (.int l)).map PyData.bool by rw [List.map_map]; rfl] at dv
        rw [Jv.dv_bools dv] at eD
        refine ⟨D, _, rfl, Jv.sqL_at eD, ?_⟩
        rw [List.all_map]
        exact q _ (s1.trans s2)
    · rw [decide_eq_false (p := 0 < ds.length) (by omega), Bool.false_and] at q
      walk_at "r"
      exact q _ s1
theorem ok_is_knowing (T : Tx) (O : Ok K mg T) : FnOk P w K mg base CX0 2 T.f_is_knowing T.d_is_knowing ["thing"] (sp_is_knowing K) := by
  refine O.F_is_knowing.ok sc_is_knowing (fun vs H Q E h => by obtain ⟨_, _, rfl, _⟩ := h; rfl) (fun cdv A outer s H vs Q E hr h => ?_)
  obtain ⟨x, d, rfl, hx, q⟩ := h
  refine ⟨_, (pss_one (ps_ret (pe_and (pe_call (ok_is_sequence T O) (hr.mono (by decide)) (by rfl) O.m_is_sequence O.F_is_sequence.kp O.b_is_sequence .nil pass0 (pa_cons (pv 0) pa_nil)) (pe_and (pe_cmpR op_eq (pe_callB (r := Jv.rLenK K) Jv.cr_len (by rfl) O.z_len (by decide +kernel) (pa_cons (pv 0) pa_nil)) pe_int (nomark _)) (pe_one (pe_callB (r := rAll K) (cr_all rfl) (by rfl) O.z_all (by decide +kernel) (pa_cons (pe_lc (own := [("part", 1)]) (by rfl) sc_is_knowing.nd (Jv.piOr (show PI _ _ _ (iList K _) from pi_list (pv 0)) (show PI _ _ _ (iTup K _) from pi_tup (pv 0))) (blkOk_by (own := [("part", 1)]) (N := ["thing", "part"]) (sc := defScope s_is_knowing) (scope := ({ kind := .function, names := [(".0", .local), ("part", .local), ("is_truth", .globalImplicit)], isGenerator := false, isCoroutine := false } : Scope)) (by decide +kernel)) (fun _ _ _ _ _ => (pg_name (i := 1) sc_is_knowing.nd rfl (Or.inl rfl))) (fun _ _ _ _ _ => pts_nil) (fun _ _ _ _ _ => (pe_call (ok_is_truth T O) (hr.mono (by decide)) (by rfl) O.m_is_truth O.F_is_truth.kp O.b_is_truth .nil pass0 (pa_cons (pv 1) pa_nil)))) pa_nil))))))), ?_⟩
  walk_at "r"
  refine ⟨_, _, rfl, hx, fun H1 s1 => ?_⟩
  walk_at "r"
  cases e : Jv.seqD d with
  | none =>
    have e2 : Jv.knowsD d = false := by unfold Jv.knowsD; rw [e]
    rw [e2] at q
    walk_at "r"; exact q _ s1
  | some ds =>
    obtain ⟨xs, sq0, al⟩ := hx.sk e
    have sq := sq0.same s1
    have al1 := al.same s1
    have ll := al.len
    have e2 : Jv.knowsD d = (decide (ds.length = 2) && ds.all Jv.boolD) := by unfold Jv.knowsD; rw [e]
    rw [e2] at q
    walk_at "r"
    refine sq.len ?_
    walk_at "r"
    refine Jv.r_decI (fun h0 => ?_) (fun h0 => ?_)
    · rw [decide_eq_true (p := ds.length = 2) (by omega), Bool.true_and] at q
      walk_at "r"
      refine Jv.lcS2 (K := K) (N := []) (j := 1) (i := 0) rfl sq .nil (ds.map fun e => .bool (Jv.boolD e)) (by rw [List.length_map]; omega) (by omega) (fun i v e' D H2 hi hv he s2 hN hD P hP => ?_) (fun D ys H2 s2 hD eD dv _ => ?_)
      · walk_at "r"
        obtain ⟨e0, h0e, hv2⟩ := al1.at hv
        rw [List.getElem?_map, h0e] at he
        obtain rfl := Option.some.inj he
        exact ⟨_, _, rfl, hv2.same s2, hP _ _ (Same.refl _) (.bl _)⟩
      · walk_at "r"
        rw [Jv.hide_nil, show (ds.map fun e => PyData.bool (Jv.boolD e)) = (ds.map Jv.boolD).map PyData.bool by rw [List.map_map]; rfl] at dv
        rw [Jv.dv_bools dv] at eD
        refine ⟨D, _, rfl, Jv.sqL_at eD, ?_⟩
        rw [List.all_map]
        exact q _ (s1.trans s2)
    · rw [decide_eq_false (p := ds.length = 2) (by omega), Bool.false_and] at q
      walk_at "r"
      exact q _ s1
theorem ok_sides_of_lines (T : Tx) (O : Ok K mg T) : FnOk P w K mg base CX0 2 T.f_sides_of_lines T.d_sides_of_lines ["lines"] (sp_sides_of_lines K) := by
  refine O.F_sides_of_lines.ok sc_sides_of_lines (fun vs H Q E h => by obtain ⟨_, _, rfl, _⟩ := h; rfl) (fun cdv A outer s H vs Q E hr h => ?_)
  obtain ⟨x, d, rfl, hx, fw, q1, q2⟩ := h
  refine ⟨_, (pss_cons (ps_if (PW.pt (pw_or (pt_not (pt_val (pe_call (ok_is_sequence T O) (hr.mono (by decide)) (by rfl) O.m_is_sequence O.F_is_sequence.kp O.b_is_sequence .nil pass0 (pa_cons (pv 0) pa_nil)))) (pw_or1 (pt_not (pt_val (pe_callB (r := rAll K) (cr_all rfl) (by rfl) O.z_all (by decide +kernel) (pa_cons (pe_lc (own := [("line", 2)]) (by rfl) sc_sides_of_lines.nd (Jv.piOr (show PI _ _ _ (iList K _) from pi_list (pv 0)) (show PI _ _ _ (iTup K _) from pi_tup (pv 0))) (blkOk_by (own := [("line", 2)]) (N := ["lines", "lengths", "line"]) (sc := defScope s_sides_of_lines) (scope := ({ kind := .function, names := [(".0", .local), ("line", .local), ("is_sequence", .globalImplicit)], isGenerator := false, isCoroutine := false } : Scope)) (by decide +kernel)) (fun _ _ _ _ _ => (pg_name (i := 2) sc_sides_of_lines.nd rfl (Or.inl rfl))) (fun _ _ _ _ _ => pts_nil) (fun _ _ _ _ _ => (pe_call (ok_is_sequence T O) (hr.mono (by decide)) (by rfl) O.m_is_sequence O.F_is_sequence.kp O.b_is_sequence .nil pass0 (pa_cons (pv 2) pa_nil)))) pa_nil))))))) (pss_one (ps_ret pe_non)) pss_nil)
  (pss_cons (ps_setLc (i := 1) (own := [("line", 2)]) (by rfl) sc_sides_of_lines.nd rfl rfl (sw_true rfl rfl rfl (by decide +kernel)) (Jv.piOr (show PI _ _ _ (iList K _) from pi_list (pv 0)) (show PI _ _ _ (iTup K _) from pi_tup (pv 0))) (blkOk_by (own := [("line", 2)]) (N := ["lines", "lengths", "line"]) (sc := defScope s_sides_of_lines) (scope := ({ kind := .function, names := [(".0", .local), ("line", .local), ("len", .globalImplicit)], isGenerator := false, isCoroutine := false } : Scope)) (by decide +kernel)) (fun _ _ _ _ _ => (pg_name (i := 2) sc_sides_of_lines.nd rfl (Or.inl rfl))) (fun _ _ _ _ _ => pts_nil) (fun _ _ _ _ _ => (pe_callB (r := Jv.rLenK K) Jv.cr_len (by rfl) O.z_len (by decide +kernel) (pa_cons (pv 2) pa_nil))))
  (pss_cons (ps_if (PW.pt (pw_or (pt_not (pt_truth (pv 1) (by intro _; rfl))) (pw_or1 (pt_cmpR (r := rNeD K) (op_neD hr.units) (pv 1) (pe_op op_rep (pe_lst (pa_cons (pe_ix (r := rIxL K) ix_list (pv 1) pe_int (fun _ _ => rfl)) pa_nil)) (pe_callB (r := Jv.rLenK K) Jv.cr_len (by rfl) O.z_len (by decide +kernel) (pa_cons (pv 1) pa_nil))) (nomark _))))) (pss_one (ps_ret pe_non)) pss_nil)
  (pss_one (ps_ret (pe_tup (pa_cons (pe_callB (r := Jv.rLenK K) Jv.cr_len (by rfl) O.z_len (by decide +kernel) (pa_cons (pv 1) pa_nil)) (pa_cons (pe_ix (r := rIxL K) ix_list (pv 1) pe_int (fun _ _ => rfl)) pa_nil)))))))), ?_⟩
  walk_at "r"
  refine ⟨_, _, rfl, hx, fun H1 s1 => ?_⟩
  walk_at "r"
  cases e : Jv.seqD d with
  | none =>
    have e2 : Jv.linesD d = none := by unfold Jv.linesD; rw [e]
    walk_at "r"; exact q1 e2 _ s1
  | some ds =>
    obtain ⟨fw1, fw2⟩ := fw ds e
    obtain ⟨xs, sq0, al⟩ := hx.sk e
    have sq := sq0.same s1
    have al1 := al.same s1
    have ll := al.len
    walk_at "r"
    refine Jv.lcS2 (K := K) (N := []) (j := 2) (i := 0) rfl sq .nil (ds.map fun e => .bool (Jv.seqD e).isSome) (by rw [List.length_map]; omega) (by omega) (fun i v e' D H2 hi hv he s2 hN hD P hP => ?_) (fun D ys H2 s2 hD eD dv _ => ?_)
    · walk_at "r"
      obtain ⟨e0, h0e, hv2⟩ := al1.at hv
      rw [List.getElem?_map, h0e] at he
      obtain rfl := Option.some.inj he
      exact ⟨_, _, rfl, hv2.same s2, fun H3 s3 => hP _ _ s3 (.bl _)⟩
    · walk_at "r"
      rw [Jv.hide_nil, show (ds.map fun e => PyData.bool (Jv.seqD e).isSome) = (ds.map fun e => (Jv.seqD e).isSome).map PyData.bool by rw [List.map_map]; rfl] at dv
      rw [Jv.dv_bools dv] at eD
      refine ⟨D, _, rfl, Jv.sqL_at eD, ?_⟩
      rw [List.all_map]
      walk_at "r"
      cases ea : (ds.all fun e => (Jv.seqD e).isSome) with
      | false =>
        have ea2 : (List.all ds ((fun b => id b) ∘ fun e => (Jv.seqD e).isSome)) = false := ea
        have e2 : Jv.linesD d = none := by unfold Jv.linesD; rw [e]; dsimp only; rw [ea, if_neg Bool.false_ne_true]
        rw [show (ds.all (id ∘ fun e => (Jv.seqD e).isSome)) = false from ea]
        walk_at "r"; exact q1 e2 _ (s1.trans s2)
      | true =>
        rw [show (ds.all (id ∘ fun e => (Jv.seqD e).isSome)) = true from ea]
        walk_at "r"
        have al2 := al1.same s2
        have s12 := s1.trans s2
        refine Jv.lcS2 (K := K) (N := []) (j := 2) (i := 0) rfl (sq.same s2) .nil ((ds.map fun e => (((Jv.seqD e).getD []).length : Int)).map PyData.int) (by rw [List.length_map, List.length_map]; omega) (by omega) (fun i v e' D2 H3 hi hv he s3 hN hD2 P hP => ?_) (fun D2 ys2 H3 s3 hD2 eD2 dv2 _ => ?_)
        · walk_at "r"
          obtain ⟨e0, h0e, hv2⟩ := al2.at hv
          rw [List.map_map, List.getElem?_map, h0e] at he
          obtain rfl := Option.some.inj he
          have hs := List.all_eq_true.mp ea e0 (List.mem_of_getElem? h0e)
          obtain ⟨l0, hl0⟩ := Option.isSome_iff_exists.mp hs
          obtain ⟨ys0, sk0, al0⟩ := hv2.sk hl0
          refine (sk0.same s3).len ?_
          show P (.int ys0.length) _
          rw [al0.len]
          refine hP _ _ (Same.refl _) ?_
          show Jv.Dv K _ _ (.int (((Jv.seqD e0).getD []).length : Int))
          rw [hl0]
          exact .int _
        · walk_at "r"
          rw [Jv.hide_nil] at dv2
          rw [Jv.dv_intsV dv2] at eD2
          have e3 : Jv.linesD d = (match ds.map (fun e => ((Jv.seqD e).getD []).length) with
            | [] => none
            | n :: ns => if ns.all (fun m => decide (m = n)) = true then some (ns.length + 1, n) else none) := by unfold Jv.linesD; rw [e]; dsimp only; (rw [ea, if_pos rfl]) <;> rfl
          rw [show (ds.map fun e => (((Jv.seqD e).getD []).length : Int)) = (ds.map fun e => ((Jv.seqD e).getD []).length).map fun (n : Nat) => (n : Int) by rw [List.map_map]; rfl] at eD2
          generalize eL : ds.map (fun e => ((Jv.seqD e).getD []).length) = L at eD2 e3
          have lL : L.length ≤ 100 := by rw [← eL, List.length_map]; exact fw1
          cases L with
          | nil =>
            refine ⟨false, Jv.tru_lst eD2, ?_⟩
            walk_at "r"
            exact q1 e3 _ (s12.trans s3)
          | cons n ns =>
            refine ⟨true, Jv.tru_lst eD2, ?_⟩
            walk_at "r"
            refine Jv.r_ixL (Jv.sqL_at eD2) (v := .int n) (Jv.at_i (by decide) rfl) ?_
            walk_at "r"
            intro t ht
            walk_at "r"
            rw [List.length_map, List.length_map]
            refine ⟨t, _, [.int n], rfl, rfl, upd_same, by omega, by simp at lL ⊢; omega, Jv.small_of (by simp at lL ⊢; omega), fun p hp => ?_⟩
            have e4 : (List.replicate (((n :: ns).length : Nat) : Int).toNat [V.int n]).flatten = (List.replicate (ns.length + 1) (n : Int)).map V.int := by
              rw [Jv.flat_one, List.map_replicate]; rfl
            rw [e4]
            refine ⟨_, _, Jv.dpL (by walk_at "sq"), Jv.dpL (by walk_at "sq"), Jv.shapedL _, Jv.shapedL _, ?_⟩
            rw [Jv.eqvL]
            walk_at "r"
            have sAll := (s12.trans s3).trans ((Jv.same_new (u := .lst [.int n]) ht).trans (Jv.same_new (u := .lst ((List.replicate (ns.length + 1) (n : Int)).map V.int)) hp))
            cases ec : ns.all (fun m => decide (m = n)) with
            | false =>
              dsimp only at e3
              rw [ec, if_neg Bool.false_ne_true] at e3
              rw [decide_eq_false (fun z => by rw [Jv.rep_all.mp z] at ec; cases ec)]
              walk_at "r"
              exact q1 e3 _ sAll
            | true =>
              dsimp only at e3
              rw [ec, if_pos rfl] at e3
              rw [decide_eq_true (Jv.rep_all.mpr ec)]
              walk_at "r"
              refine Jv.r_ixL (Jv.sqL_at (xs := ((n :: ns).map fun (k : Nat) => (k : Int)).map V.int) (by walk_at "hp")) (v := .int n) (Jv.at_i (by decide) rfl) ?_
              walk_at "r"
              intro u hu
              rw [List.length_map, List.length_map]
              exact q2 _ _ e3 u _ (sAll.trans (Jv.same_new hu)) upd_same
end
end K02

namespace K02
open PySem PySem.Spec PyProof.Rows L2
/-! ### goals -/
def sp_BadX_init (C : Addr) (f : Str) : Sp := fun vs H Q _ => ∃ a v, vs = [.ref a, v] ∧ H a = some (exo a C none) ∧ ∀ d, H d = none → d ≠ a → Q .non (upd (upd H d (exd d [(f, v)])) a (exo a C (some d)))
/-- sorted, each once, of numbers from -l to l -/
def neatI (l : Int) (ns : List Int) : List Int := ((List.range (2 * l + 1).toNat).map fun (i : Nat) => (i : Int) - l).filter fun n => decide (n ∈ ns)
def lineD (l : Int) (line : List (List Int)) : PyData := .tuple (line.map fun ns => .tuple ((neatI l ns).map .int))
def wantD (l : Int) (lls : List (List (List Int))) : PyData := .tuple (lls.map (lineD l))
def GAt (K : PySem.W.Frag) (H : Hp) (C a : Addr) (l : Int) (W : PyData) (k0 k1 : Bool) (p q : Int) : Prop :=
  ∃ dx w k s, H a = some (.ins C dx [("ladder", .int l), ("wanted", w), ("knows", k), ("sides", s)]) ∧ Jv.Dv K H w W ∧ Jv.Dv K H k (.tuple [.bool k0, .bool k1]) ∧ Jv.Dv K H s (.tuple [.int p, .int q])
/-- data of lines of lists of ends -/
def EndsR (e : PyData) (ns : List Int) : Prop := Jv.seqD e = some (ns.map .int)
def LineR (r : PyData) (line : List (List Int)) : Prop := ∃ es, Jv.seqD r = some es ∧ Paired EndsR es line
def LinesR (d : PyData) (lls : List (List (List Int))) : Prop := ∃ rows, Jv.seqD d = some rows ∧ Paired LineR rows lls
def sidesOf : Option (Nat × Nat) → PyData
  | none => .none
  | some (p, q) => .tuple [.int p, .int q]
def allEnds (l : Int) (d : PyData) : Bool := (((Jv.seqD d).getD []).flatMap fun r => (Jv.seqD r).getD []).all (Jv.endsD l)
def faultG (dl dw dk : PyData) : Option Str :=
  match dl with
  | .int l => if Jv.wholeD dl (.int 0) (.int 6) = false then some "ladder" else if Jv.sidesD (sidesOf (Jv.linesD dw)) = false then some "sides" else if allEnds l dw = false then some "wanted" else if Jv.knowsD dk = false then some "knows" else none
  | _ => some "ladder"
/-- what goals may be made of -/
structure GoodG (dl dw dk : PyData) (l : Int) (lls : List (List (List Int))) (k0 k1 : Bool) (p q : Nat) : Prop where
  dl : dl = .int l
  l0 : 0 ≤ l
  l6 : l ≤ 6
  dw : LinesR dw lls
  hp : lls.length = p
  hq : ∀ line ∈ lls, line.length = q
  p0 : 1 ≤ p
  p6 : p ≤ 6
  q0 : 1 ≤ q
  q6 : q ≤ 6
  pq : p * q ≤ 12
  ends : ∀ line ∈ lls, ∀ ns ∈ line, ns ≠ [] ∧ ns.length ≤ 60 ∧ ∀ n ∈ ns, -l ≤ n ∧ n ≤ l
  dk : Jv.seqD dk = some [.bool k0, .bool k1]
theorem memL {α β : Type} {F : α → β → Prop} : ∀ {xs : List α} {ys : List β} {x : α}, Paired F xs ys → x ∈ xs → ∃ y ∈ ys, F x y
  | _, _, _, .nil, m => by cases m
  | _, _, _, .cons a b, m => by
    rcases List.mem_cons.mp m with rfl | m
    · exact ⟨_, List.mem_cons_self, a⟩
    · obtain ⟨y, h1, h2⟩ := memL b m
      exact ⟨y, List.mem_cons_of_mem _ h1, h2⟩
theorem pairAt {α β : Type} {F : α → β → Prop} : ∀ {xs : List α} {ys : List β} {i : Nat} {x : α}, Paired F xs ys → xs[i]? = some x → ∃ y, ys[i]? = some y ∧ F x y
  | _, _, _, _, .nil, e => by simp at e
  | _, _, 0, _, .cons a _, e => by
    simp at e; subst e; exact ⟨_, rfl, a⟩
  | _, _, i + 1, _, .cons _ b, e => by
    simp at e ⊢; exact pairAt b e
theorem LineR.some {r : PyData} {line : List (List Int)} (h : LineR r line) : (Jv.seqD r).isSome = true := by
  obtain ⟨es, e, _⟩ := h
  rw [e]; rfl
theorem LineR.len {r : PyData} {line : List (List Int)} (h : LineR r line) : ((Jv.seqD r).getD []).length = line.length := by
  obtain ⟨es, e, p⟩ := h
  rw [e]; exact Paired.length p
theorem lines_len : ∀ {rows : List PyData} {lls : List (List (List Int))}, Paired LineR rows lls → rows.map (fun e => ((Jv.seqD e).getD []).length) = lls.map List.length
  | _, _, .nil => rfl
  | _, _, .cons a b => by rw [List.map_cons, List.map_cons, a.len, lines_len b]
section
variable {dl dw dk : PyData} {l : Int} {lls : List (List (List Int))} {k0 k1 : Bool} {p q : Nat}
theorem GoodG.lines (g : GoodG dl dw dk l lls k0 k1 p q) : Jv.linesD dw = .some (p, q) := by
  obtain ⟨rows, e, pr⟩ := g.dw
  have hall : (rows.all fun e => (Jv.seqD e).isSome) = true := List.all_eq_true.mpr fun r hr => by
    obtain ⟨line, _, h⟩ := memL pr hr
    exact h.some
  unfold Jv.linesD
  rw [e]; dsimp only
  rw [hall, if_pos rfl, lines_len pr]
  have hp := g.hp
  have hq := g.hq
  have p0 := g.p0
  cases lls with
  | nil => exfalso; rw [← hp] at p0; exact absurd p0 (by decide)
  | cons a r =>
    rw [List.map_cons]
    show (if _ then _ else _) = _
    have h1 : a.length = q := hq a List.mem_cons_self
    have h2 : (r.map List.length).all (fun m => decide (m = a.length)) = true := List.all_eq_true.mpr fun m hm => by
      obtain ⟨b, hb, rfl⟩ := List.mem_map.mp hm
      exact decide_eq_true (by rw [h1]; exact hq b (List.mem_cons_of_mem _ hb))
    rw [h2, if_pos rfl, List.length_map, h1, ← hp]; rfl
theorem GoodG.sides (g : GoodG dl dw dk l lls k0 k1 p q) : Jv.sidesD (sidesOf (Jv.linesD dw)) = true := by
  rw [g.lines]
  show decide _ = true
  have h := g.pq
  refine decide_eq_true ⟨⟨?_, ?_⟩, ⟨?_, ?_⟩, ?_⟩
  · have := g.p0; omega
  · have := g.p6; omega
  · have := g.q0; omega
  · have := g.q6; omega
  · exact_mod_cast h
theorem GoodG.allEnds (g : GoodG dl dw dk l lls k0 k1 p q) : allEnds l dw = true := by
  obtain ⟨rows, e, pr⟩ := g.dw
  unfold K02.allEnds
  rw [e]
  refine List.all_eq_true.mpr fun x hx => ?_
  obtain ⟨r, hr, hx⟩ := List.mem_flatMap.mp hx
  obtain ⟨line, hline, es, e2, pr2⟩ := memL pr hr
  rw [e2] at hx
  obtain ⟨ns, hns, h⟩ := memL pr2 hx
  obtain ⟨h1, _, h3⟩ := g.ends line hline ns hns
  unfold Jv.endsD
  rw [show Jv.seqD x = .some (ns.map .int) from h]
  show (decide _ && _) = true
  rw [decide_eq_true (by rw [List.length_map]; exact List.length_pos_iff.mpr h1), Bool.true_and, List.all_map, List.all_eq_true]
  intro n hn
  obtain ⟨a, b⟩ := h3 n hn
  show (decide (-l ≤ n) && decide (n ≤ l)) = true
  rw [decide_eq_true a, decide_eq_true b]; rfl
theorem GoodG.knows (g : GoodG dl dw dk l lls k0 k1 p q) : Jv.knowsD dk = true := by
  unfold Jv.knowsD
  rw [g.dk]; rfl
theorem GoodG.whole (g : GoodG dl dw dk l lls k0 k1 p q) : Jv.wholeD dl (.int 0) (.int 6) = true := by
  rw [g.dl]
  show (decide (0 ≤ l) && decide (l ≤ 6)) = true
  rw [decide_eq_true g.l0, decide_eq_true g.l6]; rfl
theorem GoodG.nofault (g : GoodG dl dw dk l lls k0 k1 p q) : faultG dl dw dk = none := by
  have h1 := g.whole; have h2 := g.sides; have h3 := g.allEnds; have h4 := g.knows; have h5 := g.dl
  subst h5
  unfold faultG
  dsimp only
  rw [h1, h2, h3, h4]; rfl
end
theorem neat_eq {l : Int} {ns ms : List Int} (h : ∀ n ∈ ns, -l ≤ n ∧ n ≤ l) (hs : ms.Pairwise (· < ·)) (hm : ∀ k : Int, k ∈ ms ↔ decide (k ∈ ns) = true) : ms = neatI l ns := by
  refine Jv.sorted_ext hs ?_ fun n => ?_
  · unfold neatI
    refine List.Pairwise.filter _ ?_
    rw [List.pairwise_map]
    exact List.pairwise_lt_range.imp fun h => by omega
  · rw [hm n, decide_eq_true_iff]
    unfold neatI
    rw [List.mem_filter, decide_eq_true_iff]
    refine ⟨fun m => ⟨?_, m⟩, fun m => m.2⟩
    obtain ⟨a, b⟩ := h n m
    exact List.mem_map.mpr ⟨(n + l).toNat, by rw [List.mem_range]; omega, by omega⟩
theorem raise_same {H : Hp} {a d : Addr} {x y z u : HO} (ha : H a = none) (hd : H d = none) : Same H (upd (del (upd (upd (upd H a x) d y) a z) a) d u) := fun b o hb => by
  have na := ne_of_none hb ha
  have nd := ne_of_none hb hd
  rw [upd_ne nd, del_ne na, upd_ne na, upd_ne nd, upd_ne na]
  exact hb
def sp_Goals_init (K : PySem.W.Frag) (C CB : Addr) : Sp := fun vs H Q E => ∃ a dx xl dl xw dw xk dk, vs = [.ref a, xl, xw, xk] ∧ H a = some (.ins C dx []) ∧ Jv.Dv K H xl dl ∧ Jv.Dv K H xw dw ∧ Jv.few3 dw ∧ Jv.Dv K H xk dk ∧
  ((∃ f, faultG dl dw dk = some f ∧ ∀ d H', Same H H' → H' d = some (.xd [("what", .str f)]) → E (.ref CB) (some d) H') ∨
   (∃ l lls k0 k1 p q, GoodG dl dw dk l lls k0 k1 p q ∧ ∀ H', (∀ b o, b ≠ a → H b = some o → H' b = some o) → GAt K H' C a l (wantD l lls) k0 k1 p q → Q .non H'))
section
variable {P : Program} {w : World} {K : PySem.W.Frag} {mg : Str → Option Value} {base : Heap}
theorem ok_BadGoalsu_initu (T : Tx) (O : Ok K mg T) : FnOk P w K mg base CX0 1 T.f_BadGoalsu_initu T.d_BadGoalsu_initu ["self", "what"] (sp_BadX_init T.C_BadGoals "what") := by
  refine O.F_BadGoalsu_initu.ok sc_BadGoalsu_initu (fun vs H Q E h => by obtain ⟨_, _, rfl, _⟩ := h; rfl) (fun cdv A outer s H vs Q E hr h => ?_)
  obtain ⟨a, v, rfl, ha, q⟩ := h
  refine ⟨_, (pss_one (ps_ost (pv 0) (pv 1))), ?_⟩
  exact ⟨_, rfl, _, rfl, a, T.C_BadGoals, rfl, O.x_BadGoals.o, O.n_BadGoals_what, .inl ⟨ha, fun d hd ne => q d hd ne⟩⟩
theorem ok_Goalsu_initu (T : Tx) (O : Ok K mg T) : FnOk P w K mg base (L2.CX P w) 3 T.f_Goalsu_initu T.d_Goalsu_initu ["self", "ladder", "wanted", "knows"] (sp_Goals_init K T.C_Goals T.C_BadGoals) := by
  refine FunD.ok O.F_Goalsu_initu sc_Goalsu_initu (fun vs H Q E h => by obtain ⟨_, _, _, _, _, _, _, _, rfl, _⟩ := h; rfl) (fun cdv A outer s H vs Q E hr h => ?_)
  obtain ⟨a, dx, xl, dl, xw, dw, xk, dk, rfl, ha, hl, hw, fw, hk, q⟩ := h
  refine ⟨_, (pss_cons (ps_if (pt_not (pt_val (pe_call (ok_is_whole T O) (hr.mono (by decide)) (by rfl) O.m_is_whole O.F_is_whole.kp O.b_is_whole .nil pass0 (pa_cons (pv 1) (pa_cons pe_int (pa_cons (pe_glob (v := .int (6)) (by rfl) O.c_LADDER_MOST ⟨_, rfl⟩) pa_nil)))))) (pss_one (ps_raise rfl (takes_of rfl rfl rfl rfl) (pmk_oex O.x_BadGoals.o O.x_BadGoals.n O.x_BadGoals.y (ok_BadGoalsu_initu T O) (hr.mono (by decide)) O.b_BadGoalsu_initu .nil pass0 (by rfl) O.m_BadGoals (pa_cons pe_str pa_nil)))) pss_nil)
  (pss_cons (ps_set (i := 4) sc_Goalsu_initu.nd rfl (Or.inl rfl) (pe_call (ok_sides_of_lines T O) (hr.mono (by decide)) (by rfl) O.m_sides_of_lines O.F_sides_of_lines.kp O.b_sides_of_lines .nil pass0 (pa_cons (pv 2) pa_nil)))
  (pss_cons (ps_if (pt_not (pt_val (pe_call (ok_are_sides T O) (hr.mono (by decide)) (by rfl) O.m_are_sides O.F_are_sides.kp O.b_are_sides .nil pass0 (pa_cons (pv 4) pa_nil)))) (pss_one (ps_raise rfl (takes_of rfl rfl rfl rfl) (pmk_oex O.x_BadGoals.o O.x_BadGoals.n O.x_BadGoals.y (ok_BadGoalsu_initu T O) (hr.mono (by decide)) O.b_BadGoalsu_initu .nil pass0 (by rfl) O.m_BadGoals (pa_cons pe_str pa_nil)))) pss_nil)
  (pss_cons (ps_if (pt_not (pt_val (pe_callB (r := rAll K) (cr_all rfl) (by rfl) O.z_all (by decide +kernel) (pa_cons (pe_lc2 (own := [("line", 5), ("ends", 6)]) (vs1 := [6]) (by rfl) sc_Goalsu_initu.nd (Jv.piOr (show PI _ _ _ (iList K _) from pi_list (pv 2)) (show PI _ _ _ (iTup K _) from pi_tup (pv 2))) (blkOk_by (own := [("line", 5), ("ends", 6)]) (N := ["self", "ladder", "wanted", "knows", "sides", "line", "ends"]) (sc := defScope s_Goalsu_initu) (by decide +kernel)) (by decide) (fun _ _ _ _ _ => (pg_name (i := 5) sc_Goalsu_initu.nd rfl (Or.inl rfl))) (fun _ _ _ _ _ => pts_nil) (fun _ _ _ _ _ => (Jv.piOr (show PI _ _ _ (iList K _) from pi_list (pv 5)) (show PI _ _ _ (iTup K _) from pi_tup (pv 5)))) (fun _ _ _ _ _ => (pg_name (i := 6) sc_Goalsu_initu.nd rfl (Or.inl rfl))) (fun _ _ _ _ _ => pts_nil) (fun _ _ _ _ _ => (pe_call (ok_are_ends T O) (hr.mono (by decide)) (by rfl) O.m_are_ends O.F_are_ends.kp O.b_are_ends .nil pass0 (pa_cons (pv 6) (pa_cons (pv 1) pa_nil))))) pa_nil)))) (pss_one (ps_raise rfl (takes_of rfl rfl rfl rfl) (pmk_oex O.x_BadGoals.o O.x_BadGoals.n O.x_BadGoals.y (ok_BadGoalsu_initu T O) (hr.mono (by decide)) O.b_BadGoalsu_initu .nil pass0 (by rfl) O.m_BadGoals (pa_cons pe_str pa_nil)))) pss_nil)
  (pss_cons (ps_if (pt_not (pt_val (pe_call (ok_is_knowing T O) (hr.mono (by decide)) (by rfl) O.m_is_knowing O.F_is_knowing.kp O.b_is_knowing .nil pass0 (pa_cons (pv 3) pa_nil)))) (pss_one (ps_raise rfl (takes_of rfl rfl rfl rfl) (pmk_oex O.x_BadGoals.o O.x_BadGoals.n O.x_BadGoals.y (ok_BadGoalsu_initu T O) (hr.mono (by decide)) O.b_BadGoalsu_initu .nil pass0 (by rfl) O.m_BadGoals (pa_cons pe_str pa_nil)))) pss_nil)
  (pss_cons (ps_fld (pv 0) (pv 1) rfl)
  (pss_cons (ps_fld (pv 0) (pe_callTy (r := Jv.rTupOf K) call_tuple_of (by rfl) O.z_tuple (by decide +kernel) (pa_cons (pe_lc (own := [("line", 5)]) (by rfl) sc_Goalsu_initu.nd (Jv.piOr (show PI _ _ _ (iList K _) from pi_list (pv 2)) (show PI _ _ _ (iTup K _) from pi_tup (pv 2))) (blkOk_by (own := [("line", 5)]) (N := ["self", "ladder", "wanted", "knows", "sides", "line", "ends"]) (sc := defScope s_Goalsu_initu) (scope := ({ kind := .function, names := [(".0", .local), ("line", .local), ("tuple", .globalImplicit)], isGenerator := false, isCoroutine := false } : Scope)) (by decide +kernel)) (fun _ _ _ _ _ => (pg_name (i := 5) sc_Goalsu_initu.nd rfl (Or.inl rfl))) (fun _ _ _ _ _ => pts_nil) (fun _ _ _ _ _ => (pe_callTy (r := Jv.rTupOf K) call_tuple_of (by rfl) O.z_tuple (by decide +kernel) (pa_cons (pe_lc (own := [("ends", 6)]) (by rfl) sc_Goalsu_initu.nd (Jv.piOr (show PI _ _ _ (iList K _) from pi_list (pv 5)) (show PI _ _ _ (iTup K _) from pi_tup (pv 5))) (blkOk_by (own := [("ends", 6)]) (N := ["self", "ladder", "wanted", "knows", "sides", "line", "ends"]) (sc := ({ kind := .function, names := [(".0", .local), ("line", .local), ("tuple", .globalImplicit)], isGenerator := false, isCoroutine := false } : Scope)) (scope := ({ kind := .function, names := [(".0", .local), ("ends", .local), ("tuple", .globalImplicit), ("sorted", .globalImplicit), ("set", .globalImplicit)], isGenerator := false, isCoroutine := false } : Scope)) (by decide +kernel)) (fun _ _ _ _ _ => (pg_name (i := 6) sc_Goalsu_initu.nd rfl (Or.inl rfl))) (fun _ _ _ _ _ => pts_nil) (fun _ _ _ _ _ => (pe_callTy (r := Jv.rTupOf K) call_tuple_of (by rfl) O.z_tuple (by decide +kernel) (pa_cons (pe_callB (r := rSortedSet w) (cr_sortedSet rfl) (by rfl) O.z_sorted (by decide +kernel) (pa_cons (pe_callTy (r := Jv.rSetI K w) (Jv.cr_setI rfl) (by rfl) O.z_set (by decide +kernel) (pa_cons (pv 6) pa_nil)) pa_nil)) pa_nil)))) pa_nil)))) pa_nil)) rfl)
  (pss_cons (ps_fld (pv 0) (pe_callTy (r := Jv.rTupOf K) call_tuple_of (by rfl) O.z_tuple (by decide +kernel) (pa_cons (pv 3) pa_nil)) rfl)
  (pss_one (ps_fld (pv 0) (pv 4) rfl)))))))))), ?_⟩
  walk_at "r"
  have ea : ∀ (f : Str) (Hx : Hp), Same H Hx → faultG dl dw dk = some f → ∀ d H', Same Hx H' → H' d = some (.xd [("what", .str f)]) → E (.ref T.C_BadGoals) (some d) H' := fun f Hx sx hf d H' s' hd => by
    rcases q with ⟨f2, hf2, q⟩ | ⟨l, lls, k0, k1, p, q0, g, _⟩
    · rw [hf] at hf2; cases hf2
      exact q d H' (sx.trans s') hd
    · rw [g.nofault] at hf; cases hf
  have rz : ∀ (f : Str) (Hx : Hp) (σ : L2.St), Same H Hx → faultG dl dw dk = some f → tMkO T.C_BadGoals (sp_BadX_init T.C_BadGoals "what") [] (tCons (tC (.str f)) tNil) σ Hx (fun cls d H' => E cls d H') := fun f Hx σ sx hf =>
    ⟨Nat.le_of_ble_eq_true rfl, fun a ha => ⟨a, _, rfl, upd_same, fun d hd ne => ⟨rfl, d, _, upd_same, by rw [upd_ne ne]; exact upd_same, by rw [upd_ne ne] at hd; exact hd, by
      rw [upd_ne ne] at hd
      exact ea _ Hx sx hf d _ (raise_same ha hd) upd_same⟩⟩⟩
  refine ⟨_, _, _, _, rfl, hl, .inr ⟨_, rfl⟩, .inr ⟨_, rfl⟩, ?_⟩
  rw [hl.whole]
  walk_at "r"
  cases ew : Jv.wholeD dl (.int 0) (.int 6) with
  | false =>
    have ef : faultG dl dw dk = some ("ladder" : Str) := by
      unfold faultG
      cases dl with
      | int l => dsimp only; rw [ew, if_pos rfl]
      | _ => rfl
    walk_at "r"
    exact rz _ _ _ (Same.refl _) ef
  | true =>
  obtain ⟨l, rfl, l0, l6⟩ := Jv.wholeD_int ew
  have fG : ∀ x, faultG (.int l) dw dk = some x ↔ (if Jv.sidesD (sidesOf (Jv.linesD dw)) = false then some ("sides" : Str) else if allEnds l dw = false then some ("wanted" : Str) else if Jv.knowsD dk = false then some ("knows" : Str) else none) = some x := fun x => by
    unfold faultG
    dsimp only
    rw [ew, if_neg (by decide)]
  cases hl
  walk_at "r"
  have fw2 : Jv.few2 dw := fun ds e => ⟨(fw ds e).1, fun x hx es he => ((fw ds e).2 x hx es he).1⟩
  refine ⟨_, _, rfl, hw, fw2, fun en H1 s1 => ?_, fun p0 q0 en t H1 s1 ht => ?_⟩
  · walk_at "r"
    refine ⟨_, _, rfl, .non, fun H2 s2 => ?_⟩
    walk_at "r"
    exact rz _ _ _ (s1.trans s2) ((fG _).mpr (by rw [en]; rfl))
  · walk_at "r"
    refine ⟨_, _, rfl, .tup (Jv.sqT_at ht) (.cons (.int _) (.cons (.int _) .nil)), fun H2 s2 => ?_⟩
    have s12 := s1.trans s2
    have ht2 := s2 _ _ ht
    walk_at "r"
    have hso : sidesOf (Jv.linesD dw) = .tuple [.int p0, .int q0] := by rw [en]; rfl
    cases es : Jv.sidesD (.tuple [.int p0, .int q0]) with
    | false =>
      walk_at "r"
      exact rz _ _ _ s12 ((fG _).mpr (by rw [hso, es]; rfl))
    | true =>
    walk_at "r"
    have hrows : ∃ rows, Jv.seqD dw = some rows ∧ rows.all (fun e => (Jv.seqD e).isSome) = true := by
      unfold Jv.linesD at en
      cases er : Jv.seqD dw with
      | none => rw [er] at en; cases en
      | some rows =>
        refine ⟨rows, rfl, ?_⟩
        rw [er] at en; dsimp only at en
        cases hb : rows.all (fun e => (Jv.seqD e).isSome) with
        | true => rfl
        | false => rw [hb, if_neg Bool.false_ne_true] at en; cases en
    obtain ⟨rows, er, hall⟩ := hrows
    obtain ⟨xs, skw, alw⟩ := hw.sk er
    obtain ⟨fr1, fr2⟩ := fw rows er
    refine Jv.lc2D (K := K) (N := []) (i := 2) (a := 5) (b := 6) rfl (skw.same s12) (alw.same s12) .nil (fun e => .bool (Jv.endsD l e)) (fun e he => ?_) fr1 (fun _ => rfl) (fun _ _ => rfl) (fun _ => rfl) (fun v u d D H3 du hd3 s3 hN hD PP hP => ?_) (fun D ys H3 s3 hD eD dv => ?_)
    · obtain ⟨z, hz⟩ := Option.isSome_iff_exists.mp (List.all_eq_true.mp hall e he)
      exact ⟨z, hz, (fr2 e he z hz).1⟩
    · obtain ⟨e, he, z, hz, hd3⟩ := hd3
      walk_at "r"
      exact ⟨_, _, _, rfl, du, (fr2 e he z hz).2 d hd3, fun H4 s4 => hP _ _ s4 (.bl _)⟩
    · walk_at "r"
      rw [Jv.hide_nil] at dv
      have efl : rows.flatMap (Jv.rowG fun e => .bool (Jv.endsD l e)) = ((rows.flatMap fun r => (Jv.seqD r).getD []).map (Jv.endsD l)).map PyData.bool := by
        rw [List.map_map, List.map_flatMap]; rfl
      rw [efl] at dv
      rw [Jv.dv_bools dv] at eD
      refine ⟨D, _, rfl, Jv.sqL_at eD, ?_⟩
      have eae : ((rows.flatMap fun r => (Jv.seqD r).getD []).map (Jv.endsD l)).all id = allEnds l dw := by
        rw [List.all_map]; unfold allEnds; rw [er]; rfl
      rw [eae]
      walk_at "r"
      have s13 := s12.trans s3
      cases eE : allEnds l dw with
      | false =>
        walk_at "r"
        exact rz _ _ _ s13 ((fG _).mpr (by rw [hso, es, eE]; rfl))
      | true =>
      walk_at "r"
      refine ⟨_, _, rfl, hk.same s13, fun H4 s4 => ?_⟩
      have s14 := s13.trans s4
      walk_at "r"
      cases eK : Jv.knowsD dk with
      | false =>
        walk_at "r"
        exact rz _ _ _ s14 ((fG _).mpr (by rw [hso, es, eE, eK]; rfl))
      | true =>
      walk_at "r"
      rcases q with ⟨f, hf, _⟩ | ⟨l', lls, k0, k1, p, q', g, qk⟩
      · have := (fG _).mp hf
        rw [hso, es, eE, eK] at this
        cases this
      have el : l = l' := PyData.int.inj g.dl
      subst el
      have epq := g.lines
      rw [en] at epq
      cases epq
      have ha4 := s14 _ _ ha
      refine Jv.r_sfld ?_
      walk_at "r"
      refine ⟨a, _, dx, [], rfl, ha4, O.o_Goals, O.n_Goals_ladder, by decide, ?_⟩
      walk_at "r"
      have hw5 := (hw.same s14).ins (o := .ins T.C_Goals dx (putF "ladder" (.int l) [])) ha4
      have hk5 := (hk.same s14).ins (o := .ins T.C_Goals dx (putF "ladder" (.int l) [])) ha4
      have ht5 : upd H4 a (.ins T.C_Goals dx (putF "ladder" (.int l) [])) t = some (.tup [.int p0, .int q0]) := by
        have h4 := s4 _ _ (s3 _ _ ht2)
        exact Jv.kpO h4 fun e => by rw [e, ha4] at h4; cases h4
      have old5 : ∀ b o, b ≠ a → H b = some o → upd H4 a (.ins T.C_Goals dx (putF "ladder" (.int l) [])) b = some o := fun b o nb hb => Jv.kpO (s14 _ _ hb) nb
      have ha5 : upd H4 a (.ins T.C_Goals dx (putF "ladder" (.int l) [])) a = some (.ins T.C_Goals dx [("ladder", .int l)]) := upd_same
      generalize upd H4 a (.ins T.C_Goals dx (putF "ladder" (.int l) [])) = H5 at hw5 hk5 ht5 old5 ha5 ⊢
      obtain ⟨ws, skw5, alw5⟩ := hw5.sk er
      obtain ⟨rows', er', prw⟩ := g.dw
      rw [er] at er'
      cases er'
      refine Jv.r_sfld ?_
      walk_at "r"
      have lws := alw5.len
      have lrw := Paired.length prw
      refine Jv.lcS2 (K := K) (N := []) (j := 5) (i := 2) rfl skw5 .nil (lls.map (lineD l)) (by rw [List.length_map]; omega) (by omega) (fun i v e D1 H6 hi hv he s6 hN1 hD1 PP hP => ?_) (fun D1 ys H6 s6 hD1 eD1 dv1 _ => ?_)
      · obtain ⟨r, hr, dr⟩ := alw5.at hv
        obtain ⟨line, hline, hLR⟩ := pairAt prw hr
        rw [List.getElem?_map, hline] at he
        obtain rfl := Option.some.inj he
        obtain ⟨es', ers, prl⟩ := hLR
        obtain ⟨us, sku, alu⟩ := (dr.same s6).sk ers
        have hends := g.ends line (List.mem_of_getElem? hline)
        have hrm := List.mem_of_getElem? hr
        have fq := (fr2 r hrm es' ers).1
        have lus := alu.len
        have lpl := Paired.length prl
        walk_at "r"
        refine Jv.lcS2 (K := K) (N := [D1]) (j := 6) (i := 5) rfl sku hN1 (line.map fun ns => .tuple ((neatI l ns).map .int)) (by rw [List.length_map]; omega) (by omega) (fun i2 u e2 D2 H7 hi2 hu he2 s7 hN2 hD2 PP2 hP2 => ?_) (fun D2 ys2 H7 s7 hD2 eD2 dv2 _ => ?_)
        · obtain ⟨e0, he0, du0⟩ := alu.at hu
          obtain ⟨ns, hns, hER⟩ := pairAt prl he0
          rw [List.getElem?_map, hns] at he2
          obtain rfl := Option.some.inj he2
          obtain ⟨us2, ⟨b, eb, hb⟩, al2⟩ := (du0.same s7).sk hER
          subst eb
          rw [Jv.dv_intsV al2] at hb
          obtain ⟨_, few60, hin⟩ := hends ns (List.mem_of_getElem? hns)
          walk_at "r"
          refine ⟨b, ns, rfl, hb, by omega, fun c n hc hn => ?_⟩
          walk_at "r"
          refine ⟨c, _, n, rfl, upd_same, by omega, fun ms r hs hm _ hr => ?_⟩
          walk_at "r"
          refine ⟨r, _, rfl, .inl ⟨Jv.sqL_at upd_same, fun t2 ht2 => ?_⟩⟩
          have em := neat_eq hin hs hm
          subst em
          have sc := (Jv.same_new (u := SetO w c (fun j => decide (j ∈ ns)) n) hc).trans (Jv.same_new (u := .lst ((neatI l ns).map V.int)) hr)
          exact hP2 _ _ (sc.trans (Jv.same_new ht2)) (Jv.dv_new ht2 (hN2.same sc) (Jv.dv_ints _))
        · walk_at "r"
          refine ⟨D2, _, rfl, .inl ⟨Jv.sqL_at eD2, fun t2 ht2 => ?_⟩⟩
          exact hP _ _ (s7.trans (Jv.same_new ht2)) (Jv.dv_new ht2 (hN1.same s7) dv2)
      · walk_at "r"
        refine ⟨D1, _, rfl, .inl ⟨Jv.sqL_at eD1, fun t2 ht2 => ?_⟩⟩
        rw [Jv.hide_nil] at dv1
        have hW : Jv.Dv K (upd H6 t2 (.tup ys)) (.ref t2) (wantD l lls) := .tup (Jv.sqT_at upd_same) (dv1.same (Jv.same_new ht2))
        have s6n := s6.trans (Jv.same_new (u := .tup ys) ht2)
        have ha7 := s6n _ _ ha5
        have hk7 := hk5.same s6n
        have ht7 := s6n _ _ ht5
        have old7 : ∀ b o, b ≠ a → H b = some o → upd H6 t2 (.tup ys) b = some o := fun b o nb hb => s6n _ _ (old5 b o nb hb)
        generalize upd H6 t2 (.tup ys) = H7 at hW ha7 hk7 ht7 old7 ⊢
        walk_at "r"
        refine ⟨a, _, dx, _, rfl, ha7, O.o_Goals, O.n_Goals_wanted, Nat.le_of_ble_eq_true rfl, ?_⟩
        walk_at "r"
        have hW8 := hW.ins (o := .ins T.C_Goals dx (putF "wanted" (.ref t2) [("ladder", .int l)])) ha7
        have hk8 := hk7.ins (o := .ins T.C_Goals dx (putF "wanted" (.ref t2) [("ladder", .int l)])) ha7
        have ht8 : upd H7 a (.ins T.C_Goals dx (putF "wanted" (.ref t2) [("ladder", .int l)])) t = some (.tup [.int p0, .int q0]) := Jv.kpO ht7 fun e => by rw [e, ha7] at ht7; cases ht7
        have old8 : ∀ b o, b ≠ a → H b = some o → upd H7 a (.ins T.C_Goals dx (putF "wanted" (.ref t2) [("ladder", .int l)])) b = some o := fun b o nb hb => Jv.kpO (old7 b o nb hb) nb
        have ha8 : upd H7 a (.ins T.C_Goals dx (putF "wanted" (.ref t2) [("ladder", .int l)])) a = some (.ins T.C_Goals dx [("ladder", .int l), ("wanted", .ref t2)]) := upd_same
        generalize upd H7 a (.ins T.C_Goals dx (putF "wanted" (.ref t2) [("ladder", .int l)])) = H8 at hW8 hk8 ht8 old8 ha8 ⊢
        refine Jv.r_sfld ?_
        walk_at "r"
        obtain ⟨ks, skk, alk⟩ := hk8.sk g.dk
        refine skk.tup fun tk H9 s9 hT => ?_
        walk_at "r"
        have ha9 := s9 _ _ ha8
        refine ⟨a, _, dx, _, rfl, ha9, O.o_Goals, O.n_Goals_knows, Nat.le_of_ble_eq_true rfl, ?_⟩
        walk_at "r"
        have hK9 : Jv.Dv K H9 (.ref tk) (.tuple [.bool k0, .bool k1]) := .tup hT (alk.same s9)
        have hW9 := (hW8.same s9).ins (o := .ins T.C_Goals dx (putF "knows" (.ref tk) [("ladder", .int l), ("wanted", .ref t2)])) ha9
        have hKA := hK9.ins (o := .ins T.C_Goals dx (putF "knows" (.ref tk) [("ladder", .int l), ("wanted", .ref t2)])) ha9
        have ht9 := s9 _ _ ht8
        have htA : upd H9 a (.ins T.C_Goals dx (putF "knows" (.ref tk) [("ladder", .int l), ("wanted", .ref t2)])) t = some (.tup [.int p0, .int q0]) := Jv.kpO ht9 fun e => by rw [e, ha9] at ht9; cases ht9
        have oldA : ∀ b o, b ≠ a → H b = some o → upd H9 a (.ins T.C_Goals dx (putF "knows" (.ref tk) [("ladder", .int l), ("wanted", .ref t2)])) b = some o := fun b o nb hb => Jv.kpO (s9 _ _ (old8 b o nb hb)) nb
        have haA : upd H9 a (.ins T.C_Goals dx (putF "knows" (.ref tk) [("ladder", .int l), ("wanted", .ref t2)])) a = some (.ins T.C_Goals dx [("ladder", .int l), ("wanted", .ref t2), ("knows", .ref tk)]) := upd_same
        generalize upd H9 a (.ins T.C_Goals dx (putF "knows" (.ref tk) [("ladder", .int l), ("wanted", .ref t2)])) = HA at hW9 hKA htA oldA haA ⊢
        show sFld K (tVar 0) (tVar 4) "sides" _ _ _
        refine Jv.r_sfld ?_
        walk_at "r"
        refine ⟨a, _, dx, _, rfl, haA, O.o_Goals, O.n_Goals_sides, Nat.le_of_ble_eq_true rfl, ?_⟩
        refine qk _ (fun b o nb hb => Jv.kpO (oldA b o nb hb) nb) ⟨dx, _, _, _, upd_same, hW9.ins haA, hKA.ins haA, .tup (Jv.sqT_at (Jv.kpO htA fun e => by rw [e, haA] at htA; cases htA)) (.cons (.int _) (.cons (.int _) .nil))⟩
end
end K02

namespace K02
open PySem PySem.Spec PyProof.Rows L2
/-! ### lots, orders, couples, sides: of data -/
def few60 (d : PyData) : Prop := ∀ ds, Jv.seqD d = some ds → ds.length ≤ 60
def intsD : List PyData → Option (List Int)
  | [] => some []
  | .int i :: r => (intsD r).map (i :: ·)
  | _ :: _ => none
theorem intsD_map : ∀ ns : List Int, intsD (ns.map .int) = some ns
  | [] => rfl
  | a :: r => by simp [intsD, intsD_map r]
theorem intsD_of : ∀ {ds : List PyData} {ns : List Int}, intsD ds = some ns → ds = ns.map .int
  | [], ns, h => by cases h; rfl
  | d :: r, ns, h => by
    cases d with
    | int i =>
      cases e : intsD r with
      | none => simp [intsD, e] at h
      | some m => simp [intsD, e] at h; subst h; rw [intsD_of e]; rfl
    | _ => cases h
def kindsD (k : Int) (d : PyData) : Bool := match Jv.seqD d with
  | some ds => ds.all fun e => Jv.wholeD e (.int 0) (.int (k - 1))
  | none => false
def lotD (k : Int) (d : PyData) : Bool := match Jv.seqD d with
  | some ds => match intsD ds with
    | some ns => decide (Jv.lotP k ns)
    | none => false
  | none => false
def orderD (k : Int) (d : PyData) : Bool := match Jv.seqD d with
  | some ds => match intsD ds with
    | some ns => decide (Jv.orderP k ns)
    | none => false
  | none => false
def coupleD (p q : Int) (d : PyData) : Bool := match Jv.seqD d with
  | some [a, b] => Jv.wholeD a (.int 0) (.int (p - 1)) && Jv.wholeD b (.int 0) (.int (q - 1))
  | _ => false
theorem kinds_true {k : Int} {d : PyData} (h : kindsD k d = true) : ∃ ns, Jv.seqD d = some (ns.map .int) ∧ Jv.inK k ns := by
  unfold kindsD at h
  cases e : Jv.seqD d with
  | none => rw [e] at h; cases h
  | some ds =>
    rw [e] at h
    have key : ∀ ds : List PyData, (ds.all fun e => Jv.wholeD e (.int 0) (.int (k - 1))) = true → ∃ ns, ds = ns.map .int ∧ Jv.inK k ns := by
      intro ds
      induction ds with
      | nil => intro _; exact ⟨[], rfl, fun _ h => by cases h⟩
      | cons a r ih =>
        intro h
        rw [List.all_cons, Bool.and_eq_true] at h
        obtain ⟨i, rfl, h1, h2⟩ := Jv.wholeD_int h.1
        obtain ⟨ns, rfl, h3⟩ := ih h.2
        refine ⟨i :: ns, rfl, fun n hn => ?_⟩
        rcases List.mem_cons.mp hn with rfl | hn
        · exact ⟨h1, h2⟩
        · exact h3 n hn
    obtain ⟨ns, rfl, h3⟩ := key ds h
    exact ⟨ns, rfl, h3⟩
theorem kinds_of {k : Int} {d : PyData} {ns : List Int} (e : Jv.seqD d = some (ns.map .int)) (h : Jv.inK k ns) : kindsD k d = true := by
  unfold kindsD; rw [e]
  show ((ns.map PyData.int).all _) = true
  rw [List.all_map, List.all_eq_true]
  intro n hn
  obtain ⟨a, b⟩ := h n hn
  show (decide (0 ≤ n) && decide (n ≤ k - 1)) = true
  rw [decide_eq_true a, decide_eq_true b]; rfl
theorem lotD_of {k : Int} {d : PyData} {ns : List Int} (e : Jv.seqD d = some (ns.map .int)) : lotD k d = decide (Jv.lotP k ns) := by
  unfold lotD; rw [e]; dsimp only; rw [intsD_map]
theorem orderD_of {k : Int} {d : PyData} {ns : List Int} (e : Jv.seqD d = some (ns.map .int)) : orderD k d = decide (Jv.orderP k ns) := by
  unfold orderD; rw [e]; dsimp only; rw [intsD_map]
theorem lotD_false {k : Int} {d : PyData} (h : kindsD k d = false) : lotD k d = false := by
  cases e : Jv.seqD d with
  | none => unfold lotD; rw [e]
  | some ds =>
    cases e2 : intsD ds with
    | none => unfold lotD; rw [e]; dsimp only; rw [e2]
    | some ns =>
      obtain rfl := intsD_of e2
      rw [lotD_of e, decide_eq_false]
      rintro ⟨h1, _⟩
      rw [kinds_of e h1] at h; cases h
theorem orderD_false {k : Int} {d : PyData} (h : kindsD k d = false) : orderD k d = false := by
  cases e : Jv.seqD d with
  | none => unfold orderD; rw [e]
  | some ds =>
    cases e2 : intsD ds with
    | none => unfold orderD; rw [e]; dsimp only; rw [e2]
    | some ns =>
      obtain rfl := intsD_of e2
      rw [orderD_of e, decide_eq_false]
      rintro ⟨h1, _⟩
      rw [kinds_of e h1] at h; cases h
def sp_are_kinds (K : PySem.W.Frag) : Sp := fun vs H Q _ => ∃ x d k, vs = [x, .int k] ∧ Jv.Dv K H x d ∧ few60 d ∧ ∀ H', Same H H' → Q (.bl (kindsD k d)) H'
def sp_is_lot (K : PySem.W.Frag) : Sp := fun vs H Q _ => ∃ x d k, vs = [x, .int k] ∧ Jv.Dv K H x d ∧ few60 d ∧ ∀ H', Same H H' → Q (.bl (lotD k d)) H'
def sp_is_order (K : PySem.W.Frag) : Sp := fun vs H Q _ => ∃ x d k, vs = [x, .int k] ∧ Jv.Dv K H x d ∧ few60 d ∧ (0 ≤ k ∧ k ≤ 60) ∧ ∀ H', Same H H' → Q (.bl (orderD k d)) H'
def sp_check_lot (K : PySem.W.Frag) (C : Addr) : Sp := fun vs H Q E => ∃ x d k v, vs = [x, .int k, v] ∧ Jv.Dv K H x d ∧ few60 d ∧
  ((∃ ns, Jv.seqD d = some (ns.map .int) ∧ Jv.lotP k ns ∧ ∀ t H', Same H H' → SqT K H' t (ns.map V.int) → Q (.ref t) H') ∨ (lotD k d = false ∧ ∀ e H', Same H H' → H' e = some (.xd [("side", v)]) → E (.ref C) (some e) H'))
def sp_check_order (K : PySem.W.Frag) (C : Addr) : Sp := fun vs H Q E => ∃ x d k v, vs = [x, .int k, v] ∧ Jv.Dv K H x d ∧ few60 d ∧ (0 ≤ k ∧ k ≤ 60) ∧
  ((∃ ns, Jv.seqD d = some (ns.map .int) ∧ Jv.orderP k ns ∧ ∀ t H', Same H H' → SqT K H' t (ns.map V.int) → Q (.ref t) H') ∨ (orderD k d = false ∧ ∀ e H', Same H H' → H' e = some (.xd [("side", v)]) → E (.ref C) (some e) H'))
def sp_check_side (K : PySem.W.Frag) (C : Addr) : Sp := fun vs H Q E => ∃ x d, vs = [x] ∧ Jv.Dv K H x d ∧ (Jv.wholeD d (.int 0) (.int 1) = true → Q x H) ∧ (Jv.wholeD d (.int 0) (.int 1) = false → E (.ref C) none H)
def sp_check_couple (K : PySem.W.Frag) (C : Addr) : Sp := fun vs H Q E => ∃ sd p q x d, vs = [sd, x] ∧ Jv.Sk K H sd [.int p, .int q] ∧ Jv.Dv K H x d ∧
  ((∃ e f, Jv.seqD d = some [.int e, .int f] ∧ (0 ≤ e ∧ e < p) ∧ (0 ≤ f ∧ f < q) ∧ ∀ t H', Same H H' → SqT K H' t [.int e, .int f] → Q (.ref t) H') ∨ (coupleD p q d = false ∧ ∀ H', Same H H' → E (.ref C) none H'))
def sp_raised_end : Sp := fun vs H Q _ => ∃ e b : Int, vs = [.int e, .int b] ∧ Q (.int (if e < 0 then e - b else e + b)) H
section
variable {P : Program} {w : World} {K : PySem.W.Frag} {mg : Str → Option Value} {base : Heap}
end
end K02

namespace K02
open PySem PySem.Spec PyProof.Rows L2
/-! ### couples -/
section
variable {P : Program} {w : World} {K : PySem.W.Frag} {mg : Str → Option Value} {base : Heap}
theorem ok_check_couple (T : Tx) (O : Ok K mg T) : FnOk P w K mg base (L2.CX P w) 2 T.f_check_couple T.d_check_couple ["sides", "couple"] (sp_check_couple K T.C_BadCouple) := by
  refine O.F_check_couple.okX sc_check_couple (fun vs H Q E h => by obtain ⟨_, _, _, _, _, rfl, _⟩ := h; rfl) (fun cdv A outer s H vs Q E hr h => ?_)
  obtain ⟨sd, p, q, x, d, rfl, hs, hx, qq⟩ := h
  have ex : coupleD p q d = false → ∀ H', Same H H' → E (.ref T.C_BadCouple) none H' := fun e H' s' => by
    rcases qq with ⟨a, b, e1, ⟨a0, a1⟩, ⟨b0, b1⟩, _⟩ | ⟨_, h⟩
    · unfold coupleD at e
      rw [e1] at e
      have : ((decide (0 ≤ a) && decide (a ≤ p - 1)) && (decide (0 ≤ b) && decide (b ≤ q - 1))) = false := e
      rw [decide_eq_true a0, decide_eq_true b0, decide_eq_true (p := a ≤ p - 1) (by omega), decide_eq_true (p := b ≤ q - 1) (by omega)] at this
      cases this
    · exact h H' s'
  refine ⟨_, (pss_cons (ps_if (PW.pt (pw_or (pt_not (pt_val (pe_call (ok_is_sequence T O) (hr.mono (by decide)) (by rfl) O.m_is_sequence O.F_is_sequence.kp O.b_is_sequence .nil pass0 (pa_cons (pv 1) pa_nil)))) (pw_or1 (pt_cmpR op_ne (pe_callB (r := Jv.rLenK K) Jv.cr_len (by rfl) O.z_len (by decide +kernel) (pa_cons (pv 1) pa_nil)) pe_int (nomark _))))) (pss_one (ps_raise rfl (takes_of rfl rfl rfl rfl) (Jv.pmk_own0 PySem.F.excBase_ValueError O.e_BadCouple.x O.m_BadCouple O.e_BadCouple.k (O.e_BadCouple.raises) (by rfl)))) pss_nil)
  (pss_cons (ps_for (passes_of rfl) rfl (show PI _ _ _ (iTup K _) from pi_tup (pe_tup (pa_cons (pe_glob (v := .int (0)) (by rfl) O.c_EAST ⟨_, rfl⟩) (pa_cons (pe_glob (v := .int (1)) (by rfl) O.c_WEST ⟨_, rfl⟩) pa_nil)))) (pg_name (i := 2) sc_check_couple.nd rfl (Or.inl rfl)) (pss_one (ps_if (pt_not (pt_val (pe_call (ok_is_whole T O) (hr.mono (by decide)) (by rfl) O.m_is_whole O.F_is_whole.kp O.b_is_whole .nil pass0 (pa_cons (pe_ix (r := rIx K) ix_seq (pv 1) (pv 2) (fun _ _ => rfl)) (pa_cons pe_int (pa_cons (pe_op op_sub (pe_ix (r := rIx K) ix_seq (pv 0) (pv 2) (fun _ _ => rfl)) pe_int) pa_nil)))))) (pss_one (ps_raise rfl (takes_of rfl rfl rfl rfl) (Jv.pmk_own0 PySem.F.excBase_ValueError O.e_BadCouple.x O.m_BadCouple O.e_BadCouple.k (O.e_BadCouple.raises) (by rfl)))) pss_nil)))
  (pss_one (ps_ret (pe_callTy (r := Jv.rTupOf K) call_tuple_of (by rfl) O.z_tuple (by decide +kernel) (pa_cons (pv 1) pa_nil)))))), ?_⟩
  walk_at "r"
  refine ⟨_, _, rfl, hx, fun H1 s1 => ?_⟩
  walk_at "r"
  cases e : Jv.seqD d with
  | none =>
    have e2 : coupleD p q d = false := by unfold coupleD; rw [e]
    walk_at "r"; exact ex e2 _ s1
  | some ds =>
    obtain ⟨xs, sq0, al⟩ := hx.sk e
    have sq := sq0.same s1
    walk_at "r"
    refine sq.len ?_
    walk_at "r"
    refine Jv.r_ndecI (fun hl => ?_) (fun hl => ?_)
    · have e2 : coupleD p q d = false := by
        unfold coupleD; rw [e]
        split
        · rename_i e3; cases e3; rw [al.len] at hl; exact absurd rfl hl
        · rfl
      walk_at "r"; exact ex e2 _ s1
    · obtain ⟨y, z, rfl⟩ : ∃ y z, xs = [y, z] := by
        match xs, hl with
        | [y, z], _ => exact ⟨y, z, rfl⟩
        | [], h => simp at h
        | [_], h => simp at h
        | _ :: _ :: _ :: r, h => simp at h; omega
      cases al with
      | cons h1 al =>
      cases al with
      | cons h2 al =>
      cases al
      rename_i d1 d2
      have e2 : coupleD p q d = (Jv.wholeD d1 (.int 0) (.int (p - 1)) && Jv.wholeD d2 (.int 0) (.int (q - 1))) := by unfold coupleD; rw [e]
      rw [e2] at ex
      walk_at "r"
      intro t ht
      have s2 := s1.trans (Jv.same_new (u := .tup [.int 0, .int 1]) ht)
      have sq2 := sq0.same s2
      refine ⟨t, rfl, ⟨_, Jv.sqT_at upd_same⟩, ?_⟩
      refine for_tup (xs := [.int 0, .int 1]) (fun i σ H2 => ∃ y2, σ = [some sd, some x, y2] ∧ H2 = upd H1 t (.tup [.int 0, .int 1]) ∧ (1 ≤ i → Jv.wholeD d1 (.int 0) (.int (p - 1)) = true) ∧ (2 ≤ i → Jv.wholeD d2 (.int 0) (.int (q - 1)) = true)) ⟨_, rfl, rfl, fun h => absurd h (by decide), fun h => absurd h (by decide)⟩ (fun i σ H2 _ ⟨_, _, e3, _⟩ => by rw [e3]; exact Jv.sqT_at upd_same) ?_ ?_
      · rintro i v σ H2 hv ⟨y2, rfl, rfl, c1, c2⟩
        match i, hv with
        | 0, hv =>
          cases hv
          walk_at "r"
          refine sq2.ix (v := y) rfl ?_
          walk_at "r"
          refine (hs.same s2).ix (v := .int p) rfl ?_
          walk_at "r"
          refine ⟨_, _, _, _, rfl, h1.same s2, .inr ⟨_, rfl⟩, .inr ⟨_, rfl⟩, ?_⟩
          rw [h1.whole]
          walk_at "r"
          cases ey : Jv.wholeD d1 (.int 0) (.int (p - 1)) with
          | true => walk_at "r"; exact ⟨_, rfl, rfl, fun _ => rfl, fun h => absurd h (by decide)⟩
          | false => walk_at "r"; exact ex (by rw [ey]; rfl) _ s2
        | 1, hv =>
          cases hv
          walk_at "r"
          refine sq2.ix (v := z) rfl ?_
          walk_at "r"
          refine (hs.same s2).ix (v := .int q) rfl ?_
          walk_at "r"
          refine ⟨_, _, _, _, rfl, h2.same s2, .inr ⟨_, rfl⟩, .inr ⟨_, rfl⟩, ?_⟩
          rw [h2.whole]
          walk_at "r"
          cases ez : Jv.wholeD d2 (.int 0) (.int (q - 1)) with
          | true => walk_at "r"; exact ⟨_, rfl, rfl, fun _ => c1 (by decide), fun _ => rfl⟩
          | false => walk_at "r"; exact ex (by rw [ez, Bool.and_false]) _ s2
      · rintro σ H2 ⟨y2, rfl, rfl, c1, c2⟩
        have w1 := c1 (by decide)
        have w2 := c2 (by decide)
        obtain ⟨i1, rfl, _, _⟩ := Jv.wholeD_int w1
        obtain ⟨i2, rfl, _, _⟩ := Jv.wholeD_int w2
        cases h1; cases h2
        walk_at "r"
        rcases qq with ⟨a, b, e1, _, _, k⟩ | ⟨hf, _⟩
        · rw [e] at e1
          cases e1
          exact sq2.tup fun t2 H3 s3 ht2 => k t2 _ (s2.trans s3) ht2
        · rw [e2, w1, w2] at hf; cases hf
end
end K02

namespace K02
open PySem PySem.Spec PyProof.Rows L2
/-! ### goals made of goals: what they are -/
def lineT (line : List (List Int)) : PyData := .tuple (line.map fun ns => .tuple (ns.map .int))
def wantT (L : List (List (List Int))) : PyData := .tuple (L.map lineT)
theorem want_eq {l : Int} {lls : List (List (List Int))} : wantD l lls = wantT (lls.map fun line => line.map (neatI l)) := by
  unfold wantD wantT
  rw [List.map_map]
  congr 1
  refine List.map_congr_left fun line _ => ?_
  show lineD l line = lineT (line.map (neatI l))
  unfold lineD lineT
  rw [List.map_map]; rfl
theorem mem_neat {l n : Int} {ns : List Int} : n ∈ neatI l ns ↔ (-l ≤ n ∧ n ≤ l) ∧ n ∈ ns := by
  unfold neatI
  rw [List.mem_filter, decide_eq_true_iff, List.mem_map]
  refine and_congr_left fun _ => ⟨?_, fun h => ⟨(n + l).toNat, by rw [List.mem_range]; omega, by omega⟩⟩
  rintro ⟨i, hi, rfl⟩
  rw [List.mem_range] at hi
  omega
theorem neat_sorted {l : Int} {ns : List Int} : (neatI l ns).Pairwise (· < ·) := by
  unfold neatI
  refine List.Pairwise.filter _ ?_
  rw [List.pairwise_map]
  exact List.pairwise_lt_range.imp fun h => by omega
theorem neat_len {l : Int} {ns : List Int} (h : l ≤ 7) : (neatI l ns).length ≤ 15 := by
  unfold neatI
  refine Nat.le_trans (List.length_filter_le _ _) ?_
  rw [List.length_map, List.length_range]; omega
theorem neat_of {l : Int} {ns : List Int} (h : ∀ n ∈ ns, -l ≤ n ∧ n ≤ l) (hs : ns.Pairwise (· < ·)) : neatI l ns = ns :=
  Jv.sorted_ext neat_sorted hs fun n => by rw [mem_neat]; exact ⟨fun m => m.2, fun m => ⟨h n m, m⟩⟩
/-- neat lines of a shape -/
structure Wd (l : Int) (L : List (List (List Int))) (p q : Nat) : Prop where
  l0 : 0 ≤ l
  l6 : l ≤ 6
  hp : L.length = p
  hq : ∀ line ∈ L, line.length = q
  p0 : 1 ≤ p
  p6 : p ≤ 6
  q0 : 1 ≤ q
  q6 : q ≤ 6
  pq : p * q ≤ 12
  ends : ∀ line ∈ L, ∀ ns ∈ line, ns ≠ [] ∧ neatI l ns = ns
theorem Wd.range {l : Int} {L : List (List (List Int))} {p q : Nat} (w : Wd l L p q) {line : List (List Int)} {ns : List Int} (h1 : line ∈ L) (h2 : ns ∈ line) : ns.length ≤ 60 ∧ ∀ n ∈ ns, -l ≤ n ∧ n ≤ l := by
  obtain ⟨_, e⟩ := w.ends line h1 ns h2
  refine ⟨?_, fun n hn => ?_⟩
  · rw [← e]; have := neat_len (l := l) (ns := ns) (by have := w.l6; omega); omega
  · rw [← e] at hn; exact (mem_neat.mp hn).1
theorem Wd.same {l : Int} {L : List (List (List Int))} {p q : Nat} (w : Wd l L p q) : (L.map fun line => line.map (neatI l)) = L := by
  have : ∀ line ∈ L, line.map (neatI l) = line := fun line h => by
    have : ∀ ns ∈ line, neatI l ns = ns := fun ns h2 => (w.ends line h ns h2).2
    rw [List.map_congr_left (g := id) this, List.map_id]
  rw [List.map_congr_left (g := id) this, List.map_id]
/-- the lines as lists or tuples -/
theorem pair_map {α β : Type} {f : β → α} {F : α → β → Prop} : ∀ {ys : List β}, (∀ y ∈ ys, F (f y) y) → Paired F (ys.map f) ys
  | [], _ => .nil
  | a :: r, h => .cons (h a List.mem_cons_self) (pair_map fun y m => h y (List.mem_cons_of_mem _ m))
theorem linesT {L : List (List (List Int))} : LinesR (wantT L) L := ⟨_, rfl, pair_map fun line _ => ⟨_, rfl, pair_map fun ns _ => rfl⟩⟩
def lineL (line : List (List Int)) : PyData := .list (line.map fun ns => .tuple (ns.map .int))
def wantL (L : List (List (List Int))) : PyData := .list (L.map lineL)
theorem linesL {L : List (List (List Int))} : LinesR (wantL L) L := ⟨_, rfl, pair_map fun line _ => ⟨_, rfl, pair_map fun ns _ => rfl⟩⟩
def wantLT (L : List (List (List Int))) : PyData := .list (L.map lineT)
theorem linesLT {L : List (List (List Int))} : LinesR (wantLT L) L := ⟨_, rfl, pair_map fun line _ => ⟨_, rfl, pair_map fun ns _ => rfl⟩⟩
def wantLL (L : List (List (List Int))) : PyData := .list (L.map fun line => .list (line.map fun ns => .list (ns.map .int)))
theorem linesLL {L : List (List (List Int))} : LinesR (wantLL L) L := ⟨_, rfl, pair_map fun line _ => ⟨_, rfl, pair_map fun ns _ => rfl⟩⟩
theorem Wd.good {l : Int} {L : List (List (List Int))} {p q : Nat} {dw dk : PyData} {k0 k1 : Bool} (w : Wd l L p q) (h : LinesR dw L) (hk : Jv.seqD dk = some [.bool k0, .bool k1]) : GoodG (.int l) dw dk l L k0 k1 p q :=
  ⟨rfl, w.l0, w.l6, h, w.hp, w.hq, w.p0, w.p6, w.q0, w.q6, w.pq, fun line h1 ns h2 => ⟨(w.ends line h1 ns h2).1, w.range h1 h2⟩, hk⟩
theorem few_lines {dw : PyData} {lls : List (List (List Int))} (h : LinesR dw lls) (h1 : lls.length ≤ 100) (h2 : ∀ line ∈ lls, line.length ≤ 100) (h3 : ∀ line ∈ lls, ∀ ns ∈ line, ns.length ≤ 100) : Jv.few3 dw := by
  obtain ⟨rows, e, pr⟩ := h
  intro ds e1
  rw [e] at e1; cases e1
  refine ⟨by rw [Paired.length pr]; exact h1, fun r hr => ?_⟩
  obtain ⟨line, hl, es, e2, pr2⟩ := memL pr hr
  intro ds e3
  rw [e2] at e3; cases e3
  refine ⟨by rw [Paired.length pr2]; exact h2 line hl, fun x hx => ?_⟩
  obtain ⟨ns, hn, e4⟩ := memL pr2 hx
  intro ds e5
  rw [show Jv.seqD x = some (ns.map .int) from e4] at e5; cases e5
  rw [List.length_map]; exact h3 line hl ns hn
theorem GoodG.few {dl dw dk : PyData} {l : Int} {lls : List (List (List Int))} {k0 k1 : Bool} {p q : Nat} (g : GoodG dl dw dk l lls k0 k1 p q) : Jv.few3 dw :=
  few_lines g.dw (by rw [g.hp]; have := g.p6; omega) (fun line h => by rw [g.hq line h]; have := g.q6; omega) fun line h ns h2 => by have := (g.ends line h ns h2).2.1; omega
section
variable {K : PySem.W.Frag} {H H' H1 : Hp} {C CB a : Addr} {l : Int} {W : PyData} {k0 k1 : Bool} {p q : Int}
theorem GAt.same (h : GAt K H C a l W k0 k1 p q) (s : Same H H') : GAt K H' C a l W k0 k1 p q := by
  obtain ⟨dx, w, k, t, h1, h2, h3, h4⟩ := h
  exact ⟨dx, w, k, t, s _ _ h1, h2.same s, h3.same s, h4.same s⟩
theorem make_same {x dx : Addr} {o u : HO} (hx : H x = none) (hd : H dx = none) (ne : dx ≠ x) : Same H (upd (upd H dx o) x u) :=
  (Jv.same_new hd).trans (Jv.same_new (by rw [upd_ne ne.symm]; exact hx))
theorem mk_good {Q : VK} {E : XK} {xl xw xk : V} {dl dw dk : PyData} {lls : List (List (List Int))} {p q : Nat} (hl : Jv.Dv K H1 xl dl) (hw : Jv.Dv K H1 xw dw) (hk : Jv.Dv K H1 xk dk) (g : GoodG dl dw dk l lls k0 k1 p q)
    (k : ∀ r H', Same H1 H' → H1 r = none → GAt K H' C r l (wantD l lls) k0 k1 p q → Q (.ref r) H') :
    ∀ x dx, H1 x = none → H1 dx = none → dx ≠ x → sp_Goals_init K C CB [.ref x, xl, xw, xk] (upd (upd H1 dx (.own x)) x (.ins C dx [])) (fun v H2 => v = .non ∧ Q (.ref x) H2) E := fun x dx hx hd ne => by
  have s := make_same (o := .own x) (u := .ins C dx []) hx hd ne
  refine ⟨x, dx, xl, dl, xw, dw, xk, dk, rfl, upd_same, hl.same s, hw.same s, g.few, hk.same s, .inr ⟨l, lls, k0, k1, p, q, g, fun H' old ga => ⟨rfl, k x H' (fun b o hb => ?_) hx ga⟩⟩⟩
  exact old b o (ne_of_none hb hx) (s b o hb)
theorem mk_bad {Q : VK} {E : XK} {xl xw xk : V} {dl dw dk : PyData} {f : Str} (hl : Jv.Dv K H1 xl dl) (hw : Jv.Dv K H1 xw dw) (fw : Jv.few3 dw) (hk : Jv.Dv K H1 xk dk) (hf : faultG dl dw dk = some f)
    (k : ∀ d H', Same H1 H' → H' d = some (.xd [("what", .str f)]) → E (.ref CB) (some d) H') :
    ∀ x dx, H1 x = none → H1 dx = none → dx ≠ x → sp_Goals_init K C CB [.ref x, xl, xw, xk] (upd (upd H1 dx (.own x)) x (.ins C dx [])) (fun v H2 => v = .non ∧ Q (.ref x) H2) E := fun x dx hx hd ne => by
  have s := make_same (o := .own x) (u := .ins C dx []) hx hd ne
  exact ⟨x, dx, xl, dl, xw, dw, xk, dk, rfl, upd_same, hl.same s, hw.same s, fw, hk.same s, .inl ⟨f, hf, fun d H' s' hd' => k d H' (s.trans s') hd'⟩⟩
end
end K02

namespace Jv
open PySem PySem.Spec PyProof.Rows L2
/-! ### the hand beside data -/
section
variable {K : PySem.W.Frag} {H H' H1 : Hp} {p l b : Addr} {o : HO}
theorem Hand.ne2 (h : Hand H p l) (n : H b = none) : b ≠ p ∧ b ≠ l := by
  obtain ⟨ns, k, c, t, hA⟩ := h
  exact ⟨fun e => (by rw [e, hA.hp] at n; cases n), fun e => (by rw [e, hA.hl] at n; cases n)⟩
theorem Hand.upd (h : Hand H p l) (n1 : b ≠ p) (n2 : b ≠ l) : Hand (L2.upd H b o) p l := by
  obtain ⟨ns, k, c, t, hA⟩ := h
  exact ⟨ns, k, c, t, by rw [upd_ne n1.symm]; exact hA.hp, by rw [upd_ne n2.symm]; exact hA.hl, hA.nn, hA.few, hA.bd⟩
theorem Kp.free (k : Kp p H H') (h : Hand H' p l) (n : H' b = none) : H b = none := by
  cases e : H b with
  | none => rfl
  | some o =>
    obtain ⟨u, hu⟩ := h.at
    by_cases nb : b = p
    · rw [nb, hu] at n; cases n
    · rw [k b o nb e] at n; cases n
theorem Kp.hide (k : Kp p H H') : Same (Jv.hide [p] H) (Jv.hide [p] H') := fun b o e => by
  obtain ⟨n, e2⟩ := hide_some e
  exact hide_at n (k b o (fun h => n (by rw [h]; exact List.mem_singleton.mpr rfl)) e2)
theorem hide_one {p b : Addr} {o : HO} (n : b ≠ p) (h : H b = some o) : Jv.hide [p] H b = some o := hide_at (fun m => n (List.mem_singleton.mp m)) h
end
end Jv
namespace K02
open PySem PySem.Spec PyProof.Rows L2
/-! ### the law's own things -/
def sp_Lwhole (K : PySem.W.Frag) : Sp := fun vs H Q _ => ∃ x d, vs = [x] ∧ Jv.Dv K H x d ∧ Q (.bl (Jv.intD d)) H
def sp_Lends : Sp := fun vs H Q _ => ∃ h l lad, vs = [.ref h, .int lad] ∧ Jv.Hand H h l ∧ (0 ≤ lad ∧ lad ≤ 6) ∧ ∀ (r : Addr) (ns : List Int) (H' : Hp), ns ≠ [] → ns.length ≤ 4 → (∀ n ∈ ns, -lad ≤ n ∧ n ≤ lad) → H r = none → H' r = some (.lst (ns.map V.int)) → Jv.Kp h H H' → Jv.Hand H' h l → Q (.ref r) H'
def sp_Lneat (K : PySem.W.Frag) : Sp := fun vs H Q _ => ∃ x ns lad, vs = [x, .int lad] ∧ Jv.Sk K H x (ns.map V.int) ∧ (0 ≤ lad ∧ lad ≤ 6) ∧ ns.length ≤ 60 ∧ ∀ t H', Same H H' → H t = none → H' t = some (.tup ((neatI lad ns).map V.int)) → Q (.ref t) H'
def sp_Ltruths : Sp := fun vs H Q _ => ∃ h l, vs = [.ref h] ∧ Jv.Hand H h l ∧ ∀ (r : Addr) (k0 k1 : Bool) (H' : Hp), H r = none → H' r = some (.tup [.bl k0, .bl k1]) → Jv.Kp h H H' → Jv.Hand H' h l → Q (.ref r) H'
theorem inV_ints {z : Int} : ∀ {ns : List Int}, inV (.int z) (ns.map V.int) = decide (z ∈ ns)
  | [] => by simp [inV]
  | a :: r => by
    have ih := inV_ints (z := z) (ns := r)
    unfold inV at ih ⊢
    rw [List.map_cons, List.any_cons, ih]
    by_cases h : a = z
    · subst h; simp [eqV]
    · have h2 : ¬ z = a := fun e => h e.symm
      simp [eqV, h, h2]
theorem flat_ints (ns : List Int) : (ns.map V.int).all flatV = true := by
  rw [List.all_map, List.all_eq_true]; intro n _; rfl
section
variable {P : Program} {w : World} {K : PySem.W.Frag} {mg : Str → Option Value} {base : Heap}
theorem ok_Lwhole (T : Tx) (O : Ok K mg T) : FnOk P w K mg base CX0 1 T.f_Lwhole T.d_Lwhole ["_law_thing"] (sp_Lwhole K) := by
  refine O.F_Lwhole.ok sc_Lwhole (fun vs H Q E h => by obtain ⟨_, _, rfl, _⟩ := h; rfl) (fun cdv A outer s H vs Q E hr h => ?_)
  obtain ⟨x, d, rfl, hx, q⟩ := h
  refine ⟨_, (pss_one (ps_ret (pe_and (pe_callB (r := rIsi K) call_isi (by rfl) O.z_isinstance (by decide +kernel) (pa_cons (pv 0) (pa_cons (pe_bltn (v := .ty "int") (by rfl) O.z_int (by decide +kernel) rfl) pa_nil))) (pe_one (pe_not (pe_callB (r := rIsi K) call_isi (by rfl) O.z_isinstance (by decide +kernel) (pa_cons (pv 0) (pa_cons (pe_bltn (v := .ty "bool") (by rfl) O.z_bool (by decide +kernel) rfl) pa_nil)))))))), ?_⟩
  walk_at "r"
  cases hx <;> walk_at "r" <;> exact q
theorem ok_Lends (T : Tx) (O : Ok K mg T) : FnOk P w K mg base CX0 3 T.f_Lends T.d_Lends ["_law_hand_here", "_law_ladder"] sp_Lends := by
  refine O.F_Lends.ok sc_Lends (fun vs H Q E h => by obtain ⟨_, _, _, rfl, _⟩ := h; rfl) (fun cdv A outer s H vs Q E hr h => ?_)
  obtain ⟨h, l, lad, rfl, hh, ⟨l0, l1⟩, k⟩ := h
  refine ⟨_, (pss_cons (ps_set (i := 2) sc_Lends.nd rfl (Or.inl rfl) (pe_lst (pa_cons (pe_op op_sub (pe_call (ok_Ldraw T O) (hr.mono (by decide)) (by rfl) O.m_Ldraw O.F_Ldraw.kp O.b_Ldraw .nil pass0 (pa_cons (pv 0) (pa_cons (pe_op op_add (pe_op op_mul pe_int (pv 1)) pe_int) pa_nil))) (pv 1)) pa_nil)))
  (pss_cons (ps_for PassesOwn.never rfl (pi_range1 (by rfl) O.z_range (pa_cons (pe_call (ok_Ldraw T O) (hr.mono (by decide)) (by rfl) O.m_Ldraw O.F_Ldraw.kp O.b_Ldraw .nil pass0 (pa_cons (pv 0) (pa_cons pe_int pa_nil))) pa_nil)) (pg_name (i := 3) sc_Lends.nd rfl (Or.inl rfl)) (pss_one (ps_expr (show PE _ _ (tBM K _ _ _ _) from pe_bm PySem.F.plainAttrs_list PySem.F.slot_list_append PySem.F.type_list_append mt_append (pv 2) (pa_cons (pe_op op_sub (pe_call (ok_Ldraw T O) (hr.mono (by decide)) (by rfl) O.m_Ldraw O.F_Ldraw.kp O.b_Ldraw .nil pass0 (pa_cons (pv 0) (pa_cons (pe_op op_add (pe_op op_mul pe_int (pv 1)) pe_int) pa_nil))) (pv 1)) pa_nil)))))
  (pss_one (ps_ret (pv 2))))), ?_⟩
  walk_at "r"
  refine ⟨h, l, _, rfl, hh, ⟨by omega, Jv.log_small (by omega) (by omega)⟩, fun z H1 z0 z1 k1 h1 => ?_⟩
  walk_at "r"
  intro b hb
  have hbH := k1.free h1 hb
  obtain ⟨nbh, nbl⟩ := hh.ne2 hbH
  walk_at "r"
  refine ⟨h, l, _, rfl, h1.upd nbh nbl, ⟨by decide, Jv.log_small (by decide) (by decide)⟩, fun m H2 m0 m1 k2 h2 => ?_⟩
  walk_at "r"
  refine ⟨m, rfl, by omega, by omega, ?_⟩
  have kb : Jv.Kp h H H2 := (k1.trans (Jv.Kp.new hb)).trans k2
  have eb := k2 b _ nbh upd_same
  refine for_range (lo := 0) (n := m.toNat) (fun i σ H3 => ∃ y3 ns, σ = [some (.ref h), some (.int lad), some (.ref b), y3] ∧ Jv.Kp h H H3 ∧ Jv.Hand H3 h l ∧ H3 b = some (.lst (ns.map V.int)) ∧ ns ≠ [] ∧ ns.length = i + 1 ∧ ∀ n ∈ ns, -lad ≤ n ∧ n ≤ lad) ⟨_, [z - lad], rfl, kb, h2, eb, by simp, rfl, fun n hn => by rw [List.mem_singleton.mp hn]; omega⟩ ?_ ?_
  · rintro i σ H3 hi ⟨y3, ns, rfl, k3, h3, e3, n0, ln, nb⟩
    walk_at "r"
    refine ⟨h, l, _, rfl, h3, ⟨by omega, Jv.log_small (by omega) (by omega)⟩, fun y H4 y0 y1 k4 h4 => ?_⟩
    walk_at "r"
    have e4 := k4 b _ nbh e3
    refine Jv.r_app e4 (by rw [List.length_map]; omega) ?_
    refine ⟨_, ns ++ [y - lad], rfl, fun c o nc hc => ?_, h4.upd nbh nbl, by rw [upd_same, List.map_append]; rfl, by simp, by rw [List.length_append, ln]; rfl, fun n hn => ?_⟩
    · rw [upd_ne (ne_of_none hc hbH)]; exact k4 c o nc (k3 c o nc hc)
    · rcases List.mem_append.mp hn with hn | hn
      · exact nb n hn
      · rw [List.mem_singleton.mp hn]; omega
  · rintro σ H3 ⟨y3, ns, rfl, k3, h3, e3, n0, ln, nb⟩
    walk_at "r"
    exact k b ns H3 n0 (by omega) nb hbH e3 k3 h3
theorem ok_Lneat (T : Tx) (O : Ok K mg T) : FnOk P w K mg base CX0 1 T.f_Lneat T.d_Lneat ["_law_ends_here", "_law_ladder"] (sp_Lneat K) := by
  refine O.F_Lneat.ok sc_Lneat (fun vs H Q E h => by obtain ⟨_, _, _, rfl, _⟩ := h; rfl) (fun cdv A outer s H vs Q E hr h => ?_)
  obtain ⟨x, ns, lad, rfl, hx, ⟨l0, l1⟩, few, k⟩ := h
  refine ⟨_, (pss_one (ps_ret (pe_callTy (r := Jv.rTupOf K) call_tuple_of (by rfl) O.z_tuple (by decide +kernel) (pa_cons (pe_lc (own := [("_law_end", 2)]) (by rfl) sc_Lneat.nd (pi_range2 (by rfl) O.z_range (pa_cons (pe_un un_neg (pv 1)) (pa_cons (pe_op op_add (pv 1) pe_int) pa_nil))) (blkOk_by (own := [("_law_end", 2)]) (N := ["_law_ends_here", "_law_ladder", "_law_end"]) (sc := defScope s_Lneat) (scope := ({ kind := .function, names := [(".0", .local), ("_law_end", .local), ("_law_ends_here", .free)], isGenerator := false, isCoroutine := false } : Scope)) (by decide +kernel)) (fun _ _ _ _ _ => (pg_name (i := 2) sc_Lneat.nd rfl (Or.inl rfl))) (fun _ _ _ _ _ => (pts_one (pt_cmpR (r := rIn K false) op_in_seq (pv 2) (pv 0) rfl))) (fun _ _ _ _ _ => (pv 2))) pa_nil)))), ?_⟩
  walk_at "r"
  refine Jv.r_lc ?_
  walk_at "r"
  refine ⟨-lad, lad + 1, rfl, ⟨by omega, by omega, by omega, by omega⟩, ?_⟩
  intro D hD
  have en : (lad + 1 - -lad).toNat = (2 * lad + 1).toNat := by congr 1; omega
  refine lc_it (walk_range (lo := -lad) (n := (lad + 1 - -lad).toNat)) (fun i H1 => Same H H1 ∧ H1 D = some (.lst ((((List.range i).map fun (i : Nat) => (i : Int) - lad).filter fun n => decide (n ∈ ns)).map V.int))) ⟨Jv.same_new hD, upd_same⟩ (fun _ _ _ _ => trivial) ?_ ?_
  · rintro i v H1 H2 hi ⟨s1, e1⟩ ⟨rfl, rfl⟩
    walk_at "r"
    obtain ⟨a, rfl, ha⟩ := hx.same s1
    refine ⟨a, ns.map V.int, rfl, ha, rfl, flat_ints ns, ?_⟩
    rw [if_neg Bool.false_ne_true, inV_ints]
    have ez : -lad + (i : Int) = (i : Int) - lad := by omega
    rw [ez]
    have more : (((List.range (i + 1)).map fun (i : Nat) => (i : Int) - lad).filter fun n => decide (n ∈ ns)) = (((List.range i).map fun (i : Nat) => (i : Int) - lad).filter fun n => decide (n ∈ ns)) ++ if decide (((i : Int) - lad) ∈ ns) = true then [(i : Int) - lad] else [] := by
      rw [List.range_succ, List.map_append, List.filter_append]
      congr 1
      by_cases c : ((i : Int) - lad) ∈ ns <;> simp [c]
    cases c : decide (((i : Int) - lad) ∈ ns) with
    | true =>
      rw [c, if_pos rfl] at more
      walk_at "r"
      refine ⟨_, e1, ?_, fun b o e => Jv.kpO (s1 b o e) (ne_of_none e hD), ?_⟩
      · rw [List.length_map]
        refine Jv.small_lt (Nat.lt_of_le_of_lt (List.length_filter_le _ _) ?_)
        rw [List.length_map, List.length_range]; omega
      · rw [upd_same, more, List.map_append]
        show some (HO.lst (_ ++ [V.int (-lad + (i : Int))])) = some (HO.lst (_ ++ [V.int ((i : Int) - lad)]))
        rw [ez]
    | false =>
      rw [c, if_neg Bool.false_ne_true, List.append_nil] at more
      walk_at "r"
      refine ⟨s1, ?_⟩
      rw [more]; exact e1
  · rintro H1 ⟨s1, e1⟩
    rw [en] at e1
    walk_at "r"
    refine ⟨D, _, rfl, .inl ⟨Jv.sqL_at e1, fun t ht => ?_⟩⟩
    exact k t _ (s1.trans (Jv.same_new ht)) (s1.free ht) upd_same
theorem ok_Ltruths (T : Tx) (O : Ok K mg T) : FnOk P w K mg base CX0 3 T.f_Ltruths T.d_Ltruths ["_law_hand_here"] sp_Ltruths := by
  refine O.F_Ltruths.ok sc_Ltruths (fun vs H Q E h => by obtain ⟨_, _, rfl, _⟩ := h; rfl) (fun cdv A outer s H vs Q E hr h => ?_)
  obtain ⟨h, l, rfl, hh, k⟩ := h
  refine ⟨_, (pss_one (ps_ret (pe_tup (pa_cons (pe_cmpR op_eq (pe_call (ok_Ldraw T O) (hr.mono (by decide)) (by rfl) O.m_Ldraw O.F_Ldraw.kp O.b_Ldraw .nil pass0 (pa_cons (pv 0) (pa_cons pe_int pa_nil))) pe_int (nomark _)) (pa_cons (pe_cmpR op_eq (pe_call (ok_Ldraw T O) (hr.mono (by decide)) (by rfl) O.m_Ldraw O.F_Ldraw.kp O.b_Ldraw .nil pass0 (pa_cons (pv 0) (pa_cons pe_int pa_nil))) pe_int (nomark _)) pa_nil))))), ?_⟩
  walk_at "r"
  refine ⟨h, l, _, rfl, hh, ⟨by decide, Jv.log_small (by decide) (by decide)⟩, fun x H1 x0 x1 k1 h1 => ?_⟩
  walk_at "r"
  refine ⟨h, l, _, rfl, h1, ⟨by decide, Jv.log_small (by decide) (by decide)⟩, fun y H2 y0 y1 k2 h2 => ?_⟩
  walk_at "r"
  intro t ht
  have kk := k1.trans k2
  exact k t _ _ _ (kk.free h2 ht) upd_same (kk.trans (Jv.Kp.new ht)) (h2.same (Jv.same_new ht))
end
end K02

namespace K02
open PySem PySem.Spec PyProof.Rows L2
/-! ### wanted ends, drawn and neat -/
/-- lists of lists of ends, of a shape -/
structure Rw (l : Int) (L : List (List (List Int))) (p q : Nat) : Prop where
  hp : L.length = p
  hq : ∀ line ∈ L, line.length = q
  ends : ∀ line ∈ L, ∀ ns ∈ line, ns ≠ [] ∧ ns.length ≤ 60 ∧ ∀ n ∈ ns, -l ≤ n ∧ n ≤ l
def neatL (l : Int) (L : List (List (List Int))) : List (List (List Int)) := L.map fun line => line.map (neatI l)
theorem Rw.neat {l : Int} {L : List (List (List Int))} {p q : Nat} (r : Rw l L p q) (l0 : 0 ≤ l) (l6 : l ≤ 6) (hp : 1 ≤ p ∧ p ≤ 6) (hq : 1 ≤ q ∧ q ≤ 6) (pq : p * q ≤ 12) : Wd l (neatL l L) p q := by
  refine ⟨l0, l6, by unfold neatL; rw [List.length_map, r.hp], fun line hm => ?_, hp.1, hp.2, hq.1, hq.2, pq, fun line hm ns hn => ?_⟩
  · obtain ⟨l1, h1, rfl⟩ := List.mem_map.mp hm
    rw [List.length_map, r.hq l1 h1]
  · obtain ⟨l1, h1, rfl⟩ := List.mem_map.mp hm
    obtain ⟨m, h2, rfl⟩ := List.mem_map.mp hn
    obtain ⟨a1, _, a3⟩ := r.ends l1 h1 m h2
    refine ⟨fun e => ?_, neat_of (fun n hn => (mem_neat.mp hn).1) neat_sorted⟩
    obtain ⟨x, hx⟩ := List.exists_mem_of_ne_nil m a1
    have : x ∈ neatI l m := mem_neat.mpr ⟨a3 x hx, hx⟩
    rw [e] at this; cases this
theorem _root_.Jv.hide_mem {N : List Addr} {H : Hp} {D : Addr} {o : HO} (m : D ∈ N) : Jv.hide N (upd H D o) = Jv.hide N H := by
  funext b
  unfold Jv.hide
  by_cases mb : b ∈ N
  · rw [if_pos mb, if_pos mb]
  · rw [if_neg mb, if_neg mb]
    exact upd_ne fun e => mb (by rw [e]; exact m)
theorem _root_.Jv.hide_kp {N M : List Addr} {H H' : Hp} {p : Addr} (hp : p ∈ N) (hs : ∀ c ∈ M, c ∈ N) (k : Jv.Kp p H H') : Same (Jv.hide N H) (Jv.hide M H') := fun b o e => by
  obtain ⟨n, e2⟩ := Jv.hide_some e
  exact Jv.hide_at (fun m => n (hs b m)) (k b o (fun h => n (by rw [h]; exact hp)) e2)
theorem pair_snoc {α β : Type} {F : α → β → Prop} {x : α} {y : β} : ∀ {xs : List α} {ys : List β}, Paired F xs ys → F x y → Paired F (xs ++ [x]) (ys ++ [y])
  | _, _, .nil, h => .cons h .nil
  | _, _, .cons a b, h => .cons a (pair_snoc b h)
def RawIn (K : PySem.W.Frag) (h l sa a b : Addr) (lad : Int) (i : Nat) (H1 : Hp) (j : Nat) (σ : L2.St) (H2 : Hp) : Prop := ∃ y6 y7 us es line, σ = [some (.ref h), some (.ref sa), some (.int lad), some (.ref a), some (.int (0 + (i : Int))), some (.ref b), y6, y7] ∧
  Jv.Kp h H1 H2 ∧ Jv.Hand H2 h l ∧ H2 b = some (.lst us) ∧ Jv.DvAll K (Jv.hide [h, a, b] H2) us es ∧ Paired EndsR es line ∧ line.length = j ∧ ∀ ns ∈ line, ns ≠ [] ∧ ns.length ≤ 60 ∧ ∀ n ∈ ns, -lad ≤ n ∧ n ≤ lad
def RawOut (K : PySem.W.Frag) (h l sa a : Addr) (lad : Int) (q : Nat) (H : Hp) (i : Nat) (σ : L2.St) (H1 : Hp) : Prop := ∃ y4 y5 y6 y7 xs ds L, σ = [some (.ref h), some (.ref sa), some (.int lad), some (.ref a), y4, y5, y6, y7] ∧
  Jv.Kp h H H1 ∧ Jv.Hand H1 h l ∧ H1 a = some (.lst xs) ∧ Jv.DvAll K (Jv.hide [h, a] H1) xs ds ∧ Paired LineR ds L ∧ Rw lad L i q
def sp_Lneat_wanted (K : PySem.W.Frag) : Sp := fun vs H Q _ => ∃ x d L l, ∃ p q : Nat, vs = [x, .int l] ∧ Jv.Dv K H x d ∧ LinesR d L ∧ Rw l L p q ∧ (0 ≤ l ∧ l ≤ 6) ∧ (p ≤ 60 ∧ q ≤ 60) ∧ ∀ t H', Same H H' → Jv.Dv K H' (.ref t) (wantT (neatL l L)) → Q (.ref t) H'
def sp_Lraw_wanted (K : PySem.W.Frag) : Sp := fun vs H Q _ => ∃ h l s lad, ∃ p q : Nat, vs = [.ref h, .ref s, .int lad] ∧ Jv.Hand H h l ∧ H s = some (.tup [.int p, .int q]) ∧ (0 ≤ lad ∧ lad ≤ 6) ∧ (p ≤ 6 ∧ q ≤ 6) ∧
  ∀ r d L H', Jv.Dv K (Jv.hide [h] H') r d → LinesR d L → Rw lad L p q → Jv.Kp h H H' → Jv.Hand H' h l → Q r H'
section
variable {P : Program} {w : World} {K : PySem.W.Frag} {mg : Str → Option Value} {base : Heap}
theorem ok_Lneat_wanted (T : Tx) (O : Ok K mg T) : FnOk P w K mg base CX0 2 T.f_Lneat_wanted T.d_Lneat_wanted ["_law_lines", "_law_ladder"] (sp_Lneat_wanted K) := by
  refine O.F_Lneat_wanted.ok sc_Lneat_wanted (fun vs H Q E h => by obtain ⟨_, _, _, _, _, _, rfl, _⟩ := h; rfl) (fun cdv A outer s H vs Q E hr h => ?_)
  obtain ⟨x, d, L, l, p, q, rfl, hx, hL, hR, ⟨l0, l6⟩, ⟨hp, hq⟩, k⟩ := h
  refine ⟨_, (pss_one (ps_ret (pe_callTy (r := Jv.rTupOf K) call_tuple_of (by rfl) O.z_tuple (by decide +kernel) (pa_cons (pe_lc (own := [("_law_line", 2)]) (by rfl) sc_Lneat_wanted.nd (Jv.piOr (show PI _ _ _ (iList K _) from pi_list (pv 0)) (show PI _ _ _ (iTup K _) from pi_tup (pv 0))) (blkOk_by (own := [("_law_line", 2)]) (N := ["_law_lines", "_law_ladder", "_law_line", "_law_ends_here"]) (sc := defScope s_Lneat_wanted) (scope := ({ kind := .function, names := [(".0", .local), ("_law_line", .local), ("tuple", .globalImplicit), ("_law_ladder", .free)], isGenerator := false, isCoroutine := false } : Scope)) (by decide +kernel)) (fun _ _ _ _ _ => (pg_name (i := 2) sc_Lneat_wanted.nd rfl (Or.inl rfl))) (fun _ _ _ _ _ => pts_nil) (fun _ _ _ _ _ => (pe_callTy (r := Jv.rTupOf K) call_tuple_of (by rfl) O.z_tuple (by decide +kernel) (pa_cons (pe_lc (own := [("_law_ends_here", 3)]) (by rfl) sc_Lneat_wanted.nd (Jv.piOr (show PI _ _ _ (iList K _) from pi_list (pv 2)) (show PI _ _ _ (iTup K _) from pi_tup (pv 2))) (blkOk_by (own := [("_law_ends_here", 3)]) (N := ["_law_lines", "_law_ladder", "_law_line", "_law_ends_here"]) (sc := ({ kind := .function, names := [(".0", .local), ("_law_line", .local), ("tuple", .globalImplicit), ("_law_ladder", .cell)], isGenerator := false, isCoroutine := false } : Scope)) (scope := ({ kind := .function, names := [(".0", .local), ("_law_ends_here", .local), ("_law_neat", .globalImplicit), ("_law_ladder", .free)], isGenerator := false, isCoroutine := false } : Scope)) (by decide +kernel)) (fun _ _ _ _ _ => (pg_name (i := 3) sc_Lneat_wanted.nd rfl (Or.inl rfl))) (fun _ _ _ _ _ => pts_nil) (fun _ _ _ _ _ => (pe_call (ok_Lneat T O) (hr.mono (by decide)) (by rfl) O.m_Lneat O.F_Lneat.kp O.b_Lneat .nil pass0 (pa_cons (pv 3) (pa_cons (pv 1) pa_nil))))) pa_nil)))) pa_nil)))), ?_⟩
  walk_at "r"
  obtain ⟨rows, e, pr⟩ := hL
  obtain ⟨ws, skW, alW⟩ := hx.sk e
  have lws := alW.len
  have lpr := Paired.length pr
  have hLp := hR.hp
  refine Jv.lcS2 (K := K) (N := []) (j := 2) (i := 0) rfl skW .nil ((neatL l L).map lineT) (by rw [List.length_map]; unfold neatL; rw [List.length_map]; omega) (by omega) (fun i v e1 D1 H6 hi hv he s6 hN1 hD1 PP hP => ?_) (fun D1 ys H6 s6 hD1 eD1 dv1 _ => ?_)
  · obtain ⟨r, hr, dr⟩ := alW.at hv
    obtain ⟨line, hline, hLR⟩ := pairAt pr hr
    have ee : e1 = lineT (line.map (neatI l)) := by
      unfold neatL at he
      rw [List.map_map, List.getElem?_map, hline] at he
      exact (Option.some.inj he).symm
    subst ee
    obtain ⟨es', ers, prl⟩ := hLR
    obtain ⟨us, sku, alu⟩ := (dr.same s6).sk ers
    have lus := alu.len
    have lpl := Paired.length prl
    have hlm := List.mem_of_getElem? hline
    have hlq := hR.hq line hlm
    walk_at "r"
    refine Jv.lcS2 (K := K) (N := [D1]) (j := 3) (i := 2) rfl sku hN1 ((line.map (neatI l)).map fun ns => .tuple (ns.map .int)) (by rw [List.length_map, List.length_map]; omega) (by omega) (fun i2 u e2 D2 H7 hi2 hu he2 s7 hN2 hD2 PP2 hP2 => ?_) (fun D2 ys2 H7 s7 hD2 eD2 dv2 _ => ?_)
    · obtain ⟨e0, he0, du0⟩ := alu.at hu
      obtain ⟨ns, hns, hER⟩ := pairAt prl he0
      have ee2 : e2 = .tuple ((neatI l ns).map .int) := by
        rw [List.map_map, List.getElem?_map, hns] at he2
        exact (Option.some.inj he2).symm
      subst ee2
      obtain ⟨us2, sk2, al2⟩ := (du0.same s7).sk hER
      obtain rfl := Jv.dv_intsV al2
      obtain ⟨_, few60, _⟩ := hR.ends line hlm ns (List.mem_of_getElem? hns)
      walk_at "r"
      refine ⟨_, ns, l, rfl, sk2, ⟨l0, l6⟩, few60, fun t H8 s8 n8 ht => hP2 _ _ s8 (.tup (Jv.sqT_at (Jv.hide_at (hN2.new n8) ht)) (Jv.dv_ints _))⟩
    · walk_at "r"
      refine ⟨D2, _, rfl, .inl ⟨Jv.sqL_at eD2, fun t2 ht2 => ?_⟩⟩
      exact hP _ _ (s7.trans (Jv.same_new ht2)) (Jv.dv_new ht2 (hN1.same s7) dv2)
  · walk_at "r"
    refine ⟨D1, _, rfl, .inl ⟨Jv.sqL_at eD1, fun t2 ht2 => ?_⟩⟩
    rw [Jv.hide_nil] at dv1
    exact k t2 _ (s6.trans (Jv.same_new ht2)) (.tup (Jv.sqT_at upd_same) (dv1.same (Jv.same_new ht2)))
theorem ok_Lraw_wanted (T : Tx) (O : Ok K mg T) : FnOk P w K mg base CX0 4 T.f_Lraw_wanted T.d_Lraw_wanted ["_law_hand_here", "_law_sides", "_law_ladder"] (sp_Lraw_wanted K) := by
  refine O.F_Lraw_wanted.ok sc_Lraw_wanted (fun vs H Q E h => by obtain ⟨_, _, _, _, _, _, rfl, _⟩ := h; rfl) (fun cdv A outer s H vs Q E hr h => ?_)
  obtain ⟨h, l, sa, lad, p, q, rfl, hh, hsa, ⟨l0, l6⟩, ⟨hp, hq⟩, k⟩ := h
  refine ⟨_, (pss_cons (ps_set (i := 3) sc_Lraw_wanted.nd rfl (Or.inl rfl) (pe_lst pa_nil))
  (pss_cons (ps_for PassesOwn.never rfl (pi_range1 (by rfl) O.z_range (pa_cons (pe_ix (r := rIx K) ix_seq (pv 1) pe_int (fun _ _ => rfl)) pa_nil)) (pg_name (i := 4) sc_Lraw_wanted.nd rfl (Or.inl rfl)) (pss_cons (ps_set (i := 5) sc_Lraw_wanted.nd rfl (Or.inl rfl) (pe_lst pa_nil))
  (pss_cons (ps_for PassesOwn.never rfl (pi_range1 (by rfl) O.z_range (pa_cons (pe_ix (r := rIx K) ix_seq (pv 1) pe_int (fun _ _ => rfl)) pa_nil)) (pg_name (i := 6) sc_Lraw_wanted.nd rfl (Or.inl rfl)) (pss_cons (ps_set (i := 7) sc_Lraw_wanted.nd rfl (Or.inl rfl) (pe_call (ok_Lends T O) (hr.mono (by decide)) (by rfl) O.m_Lends O.F_Lends.kp O.b_Lends .nil pass0 (pa_cons (pv 0) (pa_cons (pv 2) pa_nil))))
  (pss_one (ps_expr (show PE _ _ (tBM K _ _ _ _) from pe_bm PySem.F.plainAttrs_list PySem.F.slot_list_append PySem.F.type_list_append mt_append (pv 5) (pa_cons (pe_ifExp (pt_cmpR op_eq (pe_call (ok_Ldraw T O) (hr.mono (by decide)) (by rfl) O.m_Ldraw O.F_Ldraw.kp O.b_Ldraw .nil pass0 (pa_cons (pv 0) (pa_cons pe_int pa_nil))) pe_int (nomark _)) (pe_callTy (r := Jv.rTupOf K) call_tuple_of (by rfl) O.z_tuple (by decide +kernel) (pa_cons (pv 7) pa_nil)) (pv 7)) pa_nil))))))
  (pss_one (ps_expr (show PE _ _ (tBM K _ _ _ _) from pe_bm PySem.F.plainAttrs_list PySem.F.slot_list_append PySem.F.type_list_append mt_append (pv 3) (pa_cons (pe_ifExp (pt_cmpR op_eq (pe_call (ok_Ldraw T O) (hr.mono (by decide)) (by rfl) O.m_Ldraw O.F_Ldraw.kp O.b_Ldraw .nil pass0 (pa_cons (pv 0) (pa_cons pe_int pa_nil))) pe_int (nomark _)) (pe_callTy (r := Jv.rTupOf K) call_tuple_of (by rfl) O.z_tuple (by decide +kernel) (pa_cons (pv 5) pa_nil)) (pv 5)) pa_nil)))))))
  (pss_one (ps_ret (pe_ifExp (pt_cmpR op_eq (pe_call (ok_Ldraw T O) (hr.mono (by decide)) (by rfl) O.m_Ldraw O.F_Ldraw.kp O.b_Ldraw .nil pass0 (pa_cons (pv 0) (pa_cons pe_int pa_nil))) pe_int (nomark _)) (pe_callTy (r := Jv.rTupOf K) call_tuple_of (by rfl) O.z_tuple (by decide +kernel) (pa_cons (pv 3) pa_nil)) (pv 3)))))), ?_⟩
  walk_at "r"
  intro a ha
  obtain ⟨nah, nal⟩ := hh.ne2 ha
  have nsh : sa ≠ h := fun e => by
    obtain ⟨ns, k1, c, t, hA⟩ := hh
    rw [e, hA.hp] at hsa; cases hsa
  have nsa : sa ≠ a := ne_of_none hsa ha
  walk_at "r"
  refine Jv.Sk.ix (xs := [.int p, .int q]) ⟨sa, rfl, .inr (Jv.sqT_at (by rw [upd_ne nsa]; exact hsa))⟩ (v := .int p) rfl ?_
  refine ⟨(p : Int), rfl, by omega, by omega, ?_⟩
  refine for_range (lo := 0) (n := ((p : Int)).toNat) (RawOut K h l sa a lad q H)
    ⟨_, _, _, _, [], [], [], rfl, Jv.Kp.new ha, hh.same (Jv.same_new ha), upd_same, .nil, .nil, ⟨rfl, fun _ hm => (by cases hm), fun _ hm => (by cases hm)⟩⟩ ?_ ?_
  · rintro i σ H1 hi ⟨y4, y5, y6, y7, xs, ds, L, rfl, k1, h1, ea, al, pr, rw1⟩
    walk_at "r"
    intro b hb
    have hbH := k1.free h1 hb
    obtain ⟨nbh, nbl⟩ := hh.ne2 hbH
    have nba : b ≠ a := fun e => by rw [e, ea] at hb; cases hb
    have esa := k1 sa _ nsh hsa
    have nsb : sa ≠ b := ne_of_none esa hb
    walk_at "r"
    refine Jv.Sk.ix (xs := [.int p, .int q]) ⟨sa, rfl, .inr (Jv.sqT_at (by rw [upd_ne nsb]; exact esa))⟩ (v := .int q) rfl ?_
    refine ⟨(q : Int), rfl, by omega, by omega, ?_⟩
    refine for_range (lo := 0) (n := ((q : Int)).toNat) (RawIn K h l sa a b lad i H1)
      ⟨_, _, [], [], [], rfl, Jv.Kp.new hb, h1.same (Jv.same_new hb), upd_same, .nil, .nil, rfl, fun _ hm => (by cases hm)⟩ ?_ ?_
    · rintro j σ H2 hj ⟨y6, y7, us, es, line, rfl, k2, h2, eb, alU, prU, lU, hE⟩
      walk_at "r"
      refine ⟨h, l, lad, rfl, h2, ⟨l0, l6⟩, fun r ns H3 n0 n4 nb hr2 er k3 h3 => ?_⟩
      have eb3 := k3 b _ nbh eb
      walk_at "r"
      refine ⟨h, l, _, rfl, h3, ⟨by decide, Jv.log_small (by decide) (by decide)⟩, fun z H4 z0 z1 k4 h4 => ?_⟩
      walk_at "r"
      have hr1 := k2.free h2 hr2
      obtain ⟨nrh, nrl⟩ := hh.ne2 (k1.free h1 hr1)
      have nra : r ≠ a := fun e => by rw [e, ea] at hr1; cases hr1
      have nrb : r ≠ b := fun e => by rw [e, eb] at hr2; cases hr2
      have er4 := k4 r _ nrh er
      have k24 := k3.trans k4
      have eb4 := k24 b _ nbh eb
      have lus : us.length = j := by rw [alU.len, Paired.length prU, lU]
      have hj6 : j < 6 := by omega
      have fin : ∀ (v : V) (e : PyData) (H5 : Hp), Same H4 H5 → Jv.Dv K (Jv.hide [h, a, b] H5) v e → EndsR e ns → RawIn K h l sa a b lad i H1 (j + 1) [some (.ref h), some (.ref sa), some (.int lad), some (.ref a), some (.int (0 + (i : Int))), some (.ref b), some (V.int (0 + (j : Int))), some (V.ref r)] (upd H5 b (.lst (us ++ [v]))) := fun v e H5 s5 dv eR =>
        ⟨_, _, us ++ [v], es ++ [e], line ++ [ns], rfl, fun c o nc hc => by rw [upd_ne (ne_of_none hc hb)]; exact s5 _ _ (k24 c o nc (k2 c o nc hc)), (h4.same s5).upd nbh nbl, upd_same, by
          rw [Jv.hide_mem (by simp)]
          exact Jv.DvAll.snoc dv ((alU.same (Jv.hide_kp (M := [h, a, b]) List.mem_cons_self (fun _ m => m) k24)).same (Jv.hide_same s5)), pair_snoc prU eR, by rw [List.length_append, lU]; rfl, fun m hm => by
          rcases List.mem_append.mp hm with hm | hm
          · exact hE m hm
          · rw [List.mem_singleton.mp hm]; exact ⟨n0, by omega, nb⟩⟩
      refine Jv.r_decI (fun hz => ?_) (fun hz => ?_)
      · walk_at "r"
        refine ⟨r, _, rfl, .inl ⟨Jv.sqL_at er4, fun t ht => ?_⟩⟩
        have nt : t ∉ [h, a, b] := fun m => by
          obtain ⟨o, ho⟩ := h4.at
          rcases List.mem_cons.mp m with rfl | m
          · rw [ho] at ht; cases ht
          · rcases List.mem_cons.mp m with rfl | m
            · rw [k24 t _ nah (k2 t _ nah ea)] at ht; cases ht
            · rw [List.mem_singleton.mp m, eb4] at ht; cases ht
        walk_at "r"
        refine Jv.r_app (Jv.kp eb4 ht) (by omega) ?_
        exact fin (.ref t) (.tuple (ns.map .int)) _ (Jv.same_new ht) (.tup (Jv.sqT_at (Jv.hide_at nt upd_same)) (Jv.dv_ints _)) rfl
      · walk_at "r"
        refine Jv.r_app eb4 (by omega) ?_
        exact fin (.ref r) (.list (ns.map .int)) _ (Same.refl _) (.lst (Jv.hide_at (by simp [nrh, nra, nrb]) er4) (Jv.dv_ints _)) rfl
    · rintro σ H2 ⟨y6, y7, us, es, line, rfl, k2, h2, eb, alU, prU, lU, hE⟩
      have ea2 := k2 a _ nah ea
      walk_at "r"
      refine ⟨h, l, _, rfl, h2, ⟨by decide, Jv.log_small (by decide) (by decide)⟩, fun z H4 z0 z1 k4 h4 => ?_⟩
      walk_at "r"
      have eb4 := k4 b _ nbh eb
      have ea4 := k4 a _ nah (k2 a _ nah ea)
      have lxs : xs.length = i := by rw [al.len, Paired.length pr, rw1.hp]
      have hi6 : i < 6 := by omega
      have fin : ∀ (v : V) (e : PyData) (H5 : Hp), Same H4 H5 → Jv.Dv K (Jv.hide [h, a] H5) v e → LineR e line → RawOut K h l sa a lad q H (i + 1) [some (.ref h), some (.ref sa), some (.int lad), some (.ref a), some (.int (0 + (i : Int))), some (.ref b), y6, y7] (upd H5 a (.lst (xs ++ [v]))) := fun v e H5 s5 dv eR =>
        ⟨_, _, _, _, xs ++ [v], ds ++ [e], L ++ [line], rfl, fun c o nc hc => by rw [upd_ne (ne_of_none hc ha)]; exact s5 _ _ (k4 c o nc (k2 c o nc (k1 c o nc hc))), (h4.same s5).upd nah nal, upd_same, by
          rw [Jv.hide_mem (by simp)]
          exact Jv.DvAll.snoc dv ((al.same (Jv.hide_kp (M := [h, a]) List.mem_cons_self (fun _ m => m) (k2.trans k4))).same (Jv.hide_same s5)), pair_snoc pr eR, ⟨by rw [List.length_append, rw1.hp]; rfl, fun m hm => by
            rcases List.mem_append.mp hm with hm | hm
            · exact rw1.hq m hm
            · rw [List.mem_singleton.mp hm, lU]; omega, fun m hm => by
            rcases List.mem_append.mp hm with hm | hm
            · exact rw1.ends m hm
            · rw [List.mem_singleton.mp hm]; exact hE⟩⟩
      have alU4 : Jv.DvAll K (Jv.hide [h, a] H4) us es := alU.same (Jv.hide_kp (M := [h, a]) List.mem_cons_self (fun c m => by rcases List.mem_cons.mp m with rfl | m <;> simp_all) k4)
      have hN4 : Jv.Held [h, a] H4 := fun c m => by
        rcases List.mem_cons.mp m with rfl | m
        · exact h4.at
        · rw [List.mem_singleton.mp m]; exact ⟨_, ea4⟩
      refine Jv.r_decI (fun hz => ?_) (fun hz => ?_)
      · walk_at "r"
        refine ⟨b, _, rfl, .inl ⟨Jv.sqL_at eb4, fun t ht => ?_⟩⟩
        walk_at "r"
        refine Jv.r_app (Jv.kp ea4 ht) (by omega) ?_
        exact fin (.ref t) (.tuple es) _ (Jv.same_new ht) (Jv.dv_new ht hN4 alU4) ⟨es, rfl, prU⟩
      · walk_at "r"
        refine Jv.r_app ea4 (by omega) ?_
        exact fin (.ref b) (.list es) _ (Same.refl _) (.lst (Jv.hide_at (by simp [nbh, nba]) eb4) alU4) ⟨es, rfl, prU⟩
  · rintro σ H1 ⟨y4, y5, y6, y7, xs, ds, L, rfl, k1, h1, ea, al, pr, rw1⟩
    walk_at "r"
    refine ⟨h, l, _, rfl, h1, ⟨by decide, Jv.log_small (by decide) (by decide)⟩, fun z H4 z0 z1 k4 h4 => ?_⟩
    walk_at "r"
    have ea4 := k4 a _ nah ea
    have al4 : Jv.DvAll K (Jv.hide [h] H4) xs ds := al.same (Jv.hide_kp (M := [h]) List.mem_cons_self (fun c m => by rw [List.mem_singleton.mp m]; exact List.mem_cons_self) k4)
    have hN4 : Jv.Held [h] H4 := fun c m => by rw [List.mem_singleton.mp m]; exact h4.at
    have rw2 : Rw lad L p q := by
      have : ((p : Int)).toNat = p := rfl
      exact rw1
    refine Jv.r_decI (fun hz => ?_) (fun hz => ?_)
    · walk_at "r"
      refine ⟨a, _, rfl, .inl ⟨Jv.sqL_at ea4, fun t ht => ?_⟩⟩
      exact k _ (.tuple ds) L _ (Jv.dv_new ht hN4 al4) ⟨ds, rfl, pr⟩ rw2 ((k1.trans k4).trans (Jv.Kp.new ht)) (h4.same (Jv.same_new ht))
    · walk_at "r"
      exact k _ (.list ds) L _ (.lst (Jv.hide_at (by simp [nah]) ea4) al4) ⟨ds, rfl, pr⟩ rw2 (k1.trans k4) h4
end
end K02

namespace K02
open PySem PySem.Spec PyProof.Rows L2
theorem _root_.Jv.r_makeX {C : Addr} {sp : Sp} {dvs : List V} {E : L2.St → XK} {t : TA} {σ : L2.St} {H : Hp} {Q : VK} (h : t σ H fun vs H1 => ∀ x dx, H1 x = none → H1 dx = none → dx ≠ x →
  sp (.ref x :: (vs ++ dvs)) (upd (upd H1 dx (.own x)) x (.ins C dx [])) (fun v H2 => v = .non ∧ Q (.ref x) H2) (E σ)) : Jv.tMakeX C sp dvs E t σ H Q := h
theorem lot_len {k : Int} : ∀ {ns : List Int} {lo : Int}, ns.Pairwise (· < ·) → (∀ n ∈ ns, lo ≤ n ∧ n < k) → (ns.length : Int) ≤ max 0 (k - lo)
  | [], lo, _, _ => by simp; omega
  | a :: r, lo, hs, h => by
    have h1 := List.pairwise_cons.mp hs
    have ha := h a List.mem_cons_self
    have h2 := lot_len (k := k) (ns := r) (lo := a + 1) h1.2 fun n hn => by
      have := h1.1 n hn
      have := h n (List.mem_cons_of_mem _ hn)
      omega
    rw [List.length_cons]
    omega
theorem lot_le {k : Int} {ns : List Int} (h : Jv.lotP k ns) : (ns.length : Int) ≤ max 0 k := by
  have := lot_len (k := k) (lo := 0) h.2.2 fun n hn => by have := h.1 n hn; omega
  omega
def cell (L : List (List (List Int))) (e w : Int) : List Int := (((L[e.toNat]?).getD [])[w.toNat]?).getD []
def cutL (L : List (List (List Int))) (n1 n2 : List Int) : List (List (List Int)) := n1.map fun e => n2.map fun w => cell L e w
theorem Wd.at {l : Int} {L : List (List (List Int))} {p q : Nat} (w : Wd l L p q) {e f : Int} (he : 0 ≤ e ∧ e < p) (hf : 0 ≤ f ∧ f < q) : ∃ line, L[e.toNat]? = some line ∧ line ∈ L ∧ line[f.toNat]? = some (cell L e f) ∧ cell L e f ∈ line := by
  have hp := w.hp
  have h1 : e.toNat < L.length := by omega
  have e1 := List.getElem?_eq_getElem h1
  have hm := List.mem_of_getElem? e1
  have hq := w.hq _ hm
  have h2 : f.toNat < L[e.toNat].length := by omega
  have e2 := List.getElem?_eq_getElem h2
  have ec : cell L e f = L[e.toNat][f.toNat] := by
    unfold cell
    rw [e1]
    show ((L[e.toNat])[f.toNat]?).getD [] = _
    rw [e2]; rfl
  exact ⟨_, e1, hm, by rw [ec]; exact e2, by rw [ec]; exact List.mem_of_getElem? e2⟩
theorem Wd.cut {l : Int} {L : List (List (List Int))} {p q : Nat} (w : Wd l L p q) {n1 n2 : List Int} (h1 : Jv.lotP p n1) (h2 : Jv.lotP q n2) : Wd l (cutL L n1 n2) n1.length n2.length := by
  have l1 := lot_le h1
  have l2 := lot_le h2
  have p6 := w.p6
  have q6 := w.q6
  have m1 : n1.length ≤ p := by omega
  have m2 : n2.length ≤ q := by omega
  refine ⟨w.l0, w.l6, by unfold cutL; rw [List.length_map], fun line hl => ?_, by have := h1.2.1; omega, by omega, by have := h2.2.1; omega, by omega, Nat.le_trans (Nat.mul_le_mul m1 m2) w.pq, fun line hl ns hn => ?_⟩
  · obtain ⟨e, _, rfl⟩ := List.mem_map.mp hl
    rw [List.length_map]
  · obtain ⟨e, he, rfl⟩ := List.mem_map.mp hl
    obtain ⟨f, hf, rfl⟩ := List.mem_map.mp hn
    have b1 := h1.1 e he
    have b2 := h2.1 f hf
    obtain ⟨line, _, hm, _, hc⟩ := w.at (e := e) (f := f) (by omega) (by omega)
    exact w.ends line hm _ hc
def sp_kept (K : PySem.W.Frag) (C CL : Addr) : Sp := fun vs H Q E => ∃ a x y l L k0 k1, ∃ p q : Nat, ∃ d1 d2, vs = [.ref a, x, y] ∧ GAt K H C a l (wantT L) k0 k1 p q ∧ Wd l L p q ∧ Jv.Dv K H x d1 ∧ few60 d1 ∧ Jv.Dv K H y d2 ∧ few60 d2 ∧
  ((∃ n1 n2, Jv.seqD d1 = some (n1.map .int) ∧ Jv.lotP p n1 ∧ Jv.seqD d2 = some (n2.map .int) ∧ Jv.lotP q n2 ∧ ∀ r H', Same H H' → GAt K H' C r l (wantT (cutL L n1 n2)) k0 k1 n1.length n2.length → Q (.ref r) H') ∨
   (lotD p d1 = false ∧ ∀ e H', Same H H' → H' e = some (.xd [("side", .int 0)]) → E (.ref CL) (some e) H') ∨
   (∃ n1, Jv.seqD d1 = some (n1.map .int) ∧ Jv.lotP p n1 ∧ lotD q d2 = false ∧ ∀ e H', Same H H' → H' e = some (.xd [("side", .int 1)]) → E (.ref CL) (some e) H'))
section
variable {P : Program} {w : World} {K : PySem.W.Frag} {mg : Str → Option Value} {base : Heap}
end
end K02

namespace K02
open PySem PySem.Spec PyProof.Rows L2
/-! ### facts of goals -/
theorem canAll_map {α : Type} {f : α → PyData} (h : ∀ x, (f x).canLay0 = true) : ∀ l : List α, PyData.canLayAll0 (l.map f) = true
  | [] => by simp [PyData.canLayAll0]
  | a :: r => by simp [PyData.canLayAll0, h a, canAll_map h r]
theorem depAll_map {α : Type} {f : α → PyData} {n : Nat} (h : ∀ x, (f x).depth ≤ n) : ∀ l : List α, PyData.depthAll (l.map f) ≤ n
  | [] => by simp [PyData.depthAll]
  | a :: r => by
    have h1 := h a
    have h2 := depAll_map h r
    simp [PyData.depthAll]; omega
theorem can_want (L : List (List (List Int))) : (wantT L).canLay0 = true := by
  unfold wantT
  simp only [PyData.canLay0]
  refine canAll_map (fun line => ?_) L
  unfold lineT
  simp only [PyData.canLay0]
  exact canAll_map (fun ns => by simp only [PyData.canLay0]; exact Jv.canAll_ints ns) line
theorem dep_want (L : List (List (List Int))) : (wantT L).depth ≤ 3 := by
  unfold wantT
  simp only [PyData.depth]
  have : PyData.depthAll (L.map lineT) ≤ 2 := by
    refine depAll_map (fun line => ?_) L
    unfold lineT
    simp only [PyData.depth]
    have : PyData.depthAll (line.map fun ns => PyData.tuple (ns.map .int)) ≤ 1 := depAll_map (fun ns => by simp only [PyData.depth, Jv.depAll_ints]; omega) line
    omega
  omega
theorem shaped_want (L : List (List (List Int))) : SeqAt.shaped (wantT L) = true := by
  have h1 := can_want L
  have h2 := dep_want L
  simp [SeqAt.shaped, h1]; omega
theorem shaped_bb (a b : Bool) : SeqAt.shaped (.tuple [.bool a, .bool b]) = true := by simp [SeqAt.shaped, PyData.canLay0, PyData.canLayAll0, PyData.depth, PyData.depthAll]
theorem shaped_ii (a b : Int) : SeqAt.shaped (.tuple [.int a, .int b]) = true := by simp [SeqAt.shaped, PyData.canLay0, PyData.canLayAll0, PyData.depth, PyData.depthAll]
theorem eqv_want (L : List (List (List Int))) : PyData.eqv (wantT L) (wantT L) = true := SeqAt.eqv_refl _ (can_want L)
theorem eqv_bb (a b : Bool) : PyData.eqv (.tuple [.bool a, .bool b]) (.tuple [.bool a, .bool b]) = true := SeqAt.eqv_refl _ (by simp [PyData.canLay0, PyData.canLayAll0])
theorem eqv_ii (a b : Int) : PyData.eqv (.tuple [.int a, .int b]) (.tuple [.int a, .int b]) = true := SeqAt.eqv_refl _ (by simp [PyData.canLay0, PyData.canLayAll0])
def sp_Lgoal_facts (K : PySem.W.Frag) (C : Addr) : Sp := fun vs H Q _ => ∃ a l L k0 k1, ∃ p q : Nat, ∃ w k, vs = [.ref a, .int l, w, k] ∧ GAt K H C a l (wantT L) k0 k1 p q ∧ Wd l L p q ∧ Jv.Dv K H w (wantT L) ∧ Jv.Dv K H k (.tuple [.bool k0, .bool k1]) ∧ ∀ H', Same H H' → Q (.bl true) H'
section
variable {P : Program} {w : World} {K : PySem.W.Frag} {mg : Str → Option Value} {base : Heap}
theorem ok_Lgoal_facts (T : Tx) (O : Ok K mg T) : FnOk P w K mg base CX0 2 T.f_Lgoal_facts T.d_Lgoal_facts ["_law_goals", "_law_ladder", "_law_wanted", "_law_known"] (sp_Lgoal_facts K T.C_Goals) := by
  refine O.F_Lgoal_facts.ok sc_Lgoal_facts (fun vs H Q E h => by obtain ⟨_, _, _, _, _, _, _, _, _, rfl, _⟩ := h; rfl) (fun cdv A outer s H vs Q E hr h => ?_)
  obtain ⟨a, l, L, k0, k1, p, q, wv, kv, rfl, hg, hw, hW, hK, k⟩ := h
  obtain ⟨dx, wv0, kv0, tv0, hga, hW0, hK0, hS0⟩ := id hg
  obtain ⟨ka, rfl, sqk0⟩ : ∃ ka, kv0 = .ref ka ∧ SqT K H ka [.bl k0, .bl k1] := by
    cases hK0 with
    | tup h qd => exact ⟨_, rfl, by rw [Jv.dv_bools (bs := [k0, k1]) qd] at h; exact h⟩
  obtain ⟨wa, ws, rfl, sqw0, alw0⟩ : ∃ wa ws, wv0 = .ref wa ∧ SqT K H wa ws ∧ Jv.DvAll K H ws (L.map lineT) := by
    cases hW0 with
    | tup h qd => exact ⟨_, _, rfl, h, qd⟩
  obtain ⟨ks, skk, alk⟩ := hK.sk rfl
  obtain rfl := Jv.dv_bools (bs := [k0, k1]) alk
  obtain ⟨us, sku, alu⟩ := hW.sk rfl
  have lus := alu.len
  rw [List.length_map, hw.hp] at lus
  refine ⟨_, (pss_cons (ps_if (PW.pt (pw_or (pt_not (pt_val (pe_call (ok_Lwhole T O) (hr.mono (by decide)) (by rfl) O.m_Lwhole O.F_Lwhole.kp O.b_Lwhole .nil pass0 (pa_cons (show PE _ _ (tFld K _ _) from pe_fld (pv 0) rfl) pa_nil)))) (pw_or (pt_cmpR op_ne (show PE _ _ (tFld K _ _) from pe_fld (pv 0) rfl) (pv 1) (nomark _)) (pw_or1 (pt_cmpR (r := rNeD K) (op_neD hr.units) (show PE _ _ (tFld K _ _) from pe_fld (pv 0) rfl) (pv 3) (nomark _)))))) (pss_one (ps_ret pe_bl)) pss_nil)
  (pss_cons (ps_if (PW.pt (pw_or (pt_not (pt_val (pe_callB (r := rIsi K) call_isi (by rfl) O.z_isinstance (by decide +kernel) (pa_cons (show PE _ _ (tFld K _ _) from pe_fld (pv 0) rfl) (pa_cons (pe_bltn (v := .ty "tuple") (by rfl) O.z_tuple (by decide +kernel) rfl) pa_nil))))) (pw_or (pt_not (pt_val (pe_call (ok_Lis T O) (hr.mono (by decide)) (by rfl) O.m_Lis O.F_Lis.kp O.b_Lis .nil pass0 (pa_cons (pe_ix (r := rIxT K) ix_tup (show PE _ _ (tFld K _ _) from pe_fld (pv 0) rfl) pe_int (fun _ _ => rfl)) (pa_cons (pe_ix (r := rIx K) ix_seq (pv 3) pe_int (fun _ _ => rfl)) pa_nil))))) (pw_or1 (pt_not (pt_val (pe_call (ok_Lis T O) (hr.mono (by decide)) (by rfl) O.m_Lis O.F_Lis.kp O.b_Lis .nil pass0 (pa_cons (pe_ix (r := rIxT K) ix_tup (show PE _ _ (tFld K _ _) from pe_fld (pv 0) rfl) pe_int (fun _ _ => rfl)) (pa_cons (pe_ix (r := rIx K) ix_seq (pv 3) pe_int (fun _ _ => rfl)) pa_nil))))))))) (pss_one (ps_ret pe_bl)) pss_nil)
  (pss_cons (ps_if (pt_cmpR (r := rNeD K) (op_neD hr.units) (show PE _ _ (tFld K _ _) from pe_fld (pv 0) rfl) (pe_tup (pa_cons (pe_callB (r := Jv.rLenK K) Jv.cr_len (by rfl) O.z_len (by decide +kernel) (pa_cons (pv 2) pa_nil)) (pa_cons (pe_callB (r := Jv.rLenK K) Jv.cr_len (by rfl) O.z_len (by decide +kernel) (pa_cons (pe_ix (r := rIx K) ix_seq (pv 2) pe_int (fun _ _ => rfl)) pa_nil)) pa_nil))) (nomark _)) (pss_one (ps_ret pe_bl)) pss_nil)
  (pss_cons (ps_if (PW.pt (pw_or (pt_not (pt_val (pe_callB (r := rIsi K) call_isi (by rfl) O.z_isinstance (by decide +kernel) (pa_cons (show PE _ _ (tFld K _ _) from pe_fld (pv 0) rfl) (pa_cons (pe_bltn (v := .ty "tuple") (by rfl) O.z_tuple (by decide +kernel) rfl) pa_nil))))) (pw_or1 (pt_cmpR (r := rNeD K) (op_neD hr.units) (show PE _ _ (tFld K _ _) from pe_fld (pv 0) rfl) (pv 2) (nomark _))))) (pss_one (ps_ret pe_bl)) pss_nil)
  (pss_cons (ps_for PassesOwn.never rfl (show PI _ _ _ (iTup K _) from pi_tup (show PE _ _ (tFld K _ _) from pe_fld (pv 0) rfl)) (pg_name (i := 4) sc_Lgoal_facts.nd rfl (Or.inl rfl)) (pss_cons (ps_if (PW.pt (pw_or (pt_not (pt_val (pe_callB (r := rIsi K) call_isi (by rfl) O.z_isinstance (by decide +kernel) (pa_cons (pv 4) (pa_cons (pe_bltn (v := .ty "tuple") (by rfl) O.z_tuple (by decide +kernel) rfl) pa_nil))))) (pw_or1 (pt_not (pt_val (pe_callB (r := rAll K) (cr_all rfl) (by rfl) O.z_all (by decide +kernel) (pa_cons (pe_lc (own := [("_law_ends_here", 5)]) (by rfl) sc_Lgoal_facts.nd (Jv.piOr (show PI _ _ _ (iList K _) from pi_list (pv 4)) (show PI _ _ _ (iTup K _) from pi_tup (pv 4))) (blkOk_by (own := [("_law_ends_here", 5)]) (N := ["_law_goals", "_law_ladder", "_law_wanted", "_law_known", "_law_line", "_law_ends_here", "_law_end"]) (sc := defScope s_Lgoal_facts) (scope := ({ kind := .function, names := [(".0", .local), ("_law_ends_here", .local), ("isinstance", .globalImplicit), ("tuple", .globalImplicit)], isGenerator := false, isCoroutine := false } : Scope)) (by decide +kernel)) (fun _ _ _ _ _ => (pg_name (i := 5) sc_Lgoal_facts.nd rfl (Or.inl rfl))) (fun _ _ _ _ _ => pts_nil) (fun _ _ _ _ _ => (pe_callB (r := rIsi K) call_isi (by rfl) O.z_isinstance (by decide +kernel) (pa_cons (pv 5) (pa_cons (pe_bltn (v := .ty "tuple") (by rfl) O.z_tuple (by decide +kernel) rfl) pa_nil))))) pa_nil))))))) (pss_one (ps_ret pe_bl)) pss_nil)
  (pss_one (ps_for PassesOwn.never rfl (Jv.piOr (show PI _ _ _ (iList K _) from pi_list (pv 4)) (show PI _ _ _ (iTup K _) from pi_tup (pv 4))) (pg_name (i := 5) sc_Lgoal_facts.nd rfl (Or.inl rfl)) (pss_one (ps_if (pt_not (pt_val (pe_callB (r := rAll K) (cr_all rfl) (by rfl) O.z_all (by decide +kernel) (pa_cons (pe_lc (own := [("_law_end", 6)]) (by rfl) sc_Lgoal_facts.nd (Jv.piOr (show PI _ _ _ (iList K _) from pi_list (pv 5)) (show PI _ _ _ (iTup K _) from pi_tup (pv 5))) (blkOk_by (own := [("_law_end", 6)]) (N := ["_law_goals", "_law_ladder", "_law_wanted", "_law_known", "_law_line", "_law_ends_here", "_law_end"]) (sc := defScope s_Lgoal_facts) (scope := ({ kind := .function, names := [(".0", .local), ("_law_end", .local), ("_law_whole", .globalImplicit)], isGenerator := false, isCoroutine := false } : Scope)) (by decide +kernel)) (fun _ _ _ _ _ => (pg_name (i := 6) sc_Lgoal_facts.nd rfl (Or.inl rfl))) (fun _ _ _ _ _ => pts_nil) (fun _ _ _ _ _ => (pe_call (ok_Lwhole T O) (hr.mono (by decide)) (by rfl) O.m_Lwhole O.F_Lwhole.kp O.b_Lwhole .nil pass0 (pa_cons (pv 6) pa_nil)))) pa_nil)))) (pss_one (ps_ret pe_bl)) pss_nil))))))
  (pss_one (ps_ret pe_bl))))))), ?_⟩
  walk_at "r"
  refine Jv.r_fld ?_
  walk_at "r"
  refine ⟨a, _, dx, _, _, rfl, hga, O.o_Goals, O.n_Goals_ladder, rfl, ?_⟩
  walk_at "r"
  refine ⟨_, _, rfl, .int l, ?_⟩
  walk_at "r"
  refine Jv.r_fld ?_
  walk_at "r"
  refine ⟨a, _, dx, _, _, rfl, hga, O.o_Goals, O.n_Goals_ladder, rfl, ?_⟩
  walk_at "r"
  rw [decide_eq_true (p := V.int l = V.int l) rfl]
  walk_at "r"
  refine Jv.r_fld ?_
  walk_at "r"
  refine ⟨a, _, dx, _, _, rfl, hga, O.o_Goals, O.n_Goals_knows, rfl, ?_⟩
  walk_at "r"
  refine ⟨_, _, hK0.dp, hK.dp, shaped_bb _ _, shaped_bb _ _, ?_⟩
  rw [eqv_bb]
  walk_at "r"
  refine Jv.r_fld ?_
  walk_at "r"
  refine ⟨a, _, dx, _, _, rfl, hga, O.o_Goals, O.n_Goals_knows, rfl, ?_⟩
  walk_at "r"
  refine Jv.d_isT hK0 ?_
  walk_at "r"
  refine Jv.r_fld ?_
  walk_at "r"
  refine ⟨a, _, dx, _, _, rfl, hga, O.o_Goals, O.n_Goals_knows, rfl, ?_⟩
  walk_at "r"
  refine skk.ix (k := 0) (v := .bl k0) rfl ?_
  walk_at "r"
  refine ⟨k0, k0, rfl, ?_⟩
  rw [decide_eq_true (p := k0 = k0) rfl]
  walk_at "r"
  refine Jv.r_fld ?_
  walk_at "r"
  refine ⟨a, _, dx, _, _, rfl, hga, O.o_Goals, O.n_Goals_knows, rfl, ?_⟩
  walk_at "r"
  refine skk.ix (k := 1) (v := .bl k1) rfl ?_
  walk_at "r"
  refine ⟨k1, k1, rfl, ?_⟩
  rw [decide_eq_true (p := k1 = k1) rfl]
  walk_at "r"
  refine Jv.r_fld ?_
  walk_at "r"
  refine ⟨a, _, dx, _, _, rfl, hga, O.o_Goals, O.n_Goals_sides, rfl, ?_⟩
  walk_at "r"
  refine sku.len ?_
  walk_at "r"
  have hp0 := hw.p0
  have hpL := hw.hp
  have hul : 0 < us.length := by omega
  obtain ⟨dl, c1, c2⟩ := alu.at (i := 0) (List.getElem?_eq_getElem hul)
  rw [List.getElem?_map] at c1
  obtain ⟨line, c3, rfl⟩ := Option.map_eq_some_iff.mp c1
  have hlq := hw.hq line (List.mem_of_getElem? c3)
  obtain ⟨xs, skx, alx⟩ := c2.sk rfl
  have lxs := alx.len
  rw [List.length_map, hlq] at lxs
  refine sku.ix (Jv.at_i (by decide) (List.getElem?_eq_getElem hul)) ?_
  walk_at "r"
  refine skx.len ?_
  walk_at "r"
  intro t ht
  rw [lus, lxs]
  have s1 : Same H (upd H t (.tup [.int p, .int q])) := Jv.same_new ht
  have et : upd H t (.tup [.int p, .int q]) t = some (.tup [.int p, .int q]) := upd_same
  generalize upd H t (.tup [.int p, .int q]) = H1 at s1 et ⊢
  walk_at "r"
  refine ⟨_, _, (hS0.same s1).dp, .tup (Jv.sqT_at et) (.cons (.int _) (.cons (.int _) .nil)), shaped_ii _ _, shaped_ii _ _, ?_⟩
  rw [eqv_ii]
  walk_at "r"
  have hga1 := s1 _ _ hga
  refine Jv.r_fld ?_
  walk_at "r"
  refine ⟨a, _, dx, _, _, rfl, hga1, O.o_Goals, O.n_Goals_wanted, rfl, ?_⟩
  walk_at "r"
  refine Jv.d_isT (hW0.same s1) ?_
  walk_at "r"
  refine Jv.r_fld ?_
  walk_at "r"
  refine ⟨a, _, dx, _, _, rfl, hga1, O.o_Goals, O.n_Goals_wanted, rfl, ?_⟩
  walk_at "r"
  refine ⟨_, _, (hW0.same s1).dp, (hW.same s1).dp, shaped_want _, shaped_want _, ?_⟩
  rw [eqv_want]
  walk_at "r"
  refine Jv.r_fld ?_
  walk_at "r"
  refine ⟨a, _, dx, _, _, rfl, hga1, O.o_Goals, O.n_Goals_wanted, rfl, ?_⟩
  walk_at "r"
  refine ⟨wa, rfl, ⟨_, Jv.Same.sqT s1 sqw0⟩, ?_⟩
  refine for_tup (xs := ws) (fun i σ H2 => ∃ y4 y5, σ = [some (.ref a), some (.int l), some wv, some kv, y4, y5, none] ∧ Same H H2) ⟨_, _, rfl, s1⟩ (fun i σ H2 _ ⟨_, _, _, s2⟩ => Jv.Same.sqT s2 sqw0) ?_ ?_
  · rintro i v σ H2 hv ⟨y4, y5, rfl, s2⟩
    obtain ⟨dl2, g1, g2⟩ := alw0.at hv
    rw [List.getElem?_map] at g1
    obtain ⟨line2, g3, rfl⟩ := Option.map_eq_some_iff.mp g1
    have hlm2 := List.mem_of_getElem? g3
    have hlq2 := hw.hq line2 hlm2
    have hq6 := hw.q6
    obtain ⟨va, vs, rfl, sqv, alv⟩ : ∃ va vs, v = .ref va ∧ SqT K H va vs ∧ Jv.DvAll K H vs (line2.map fun ns => .tuple (ns.map .int)) := by
      cases g2 with
      | tup h qd => exact ⟨_, _, rfl, h, qd⟩
    have lvs := alv.len
    rw [List.length_map] at lvs
    walk_at "r"
    refine Jv.d_isT (g2.same s2) ?_
    walk_at "r"
    have skv2 : Jv.Sk K H2 (.ref va) vs := ⟨va, rfl, .inr (Jv.Same.sqT s2 sqv)⟩
    refine Jv.lcS2 (K := K) (N := []) (j := 5) (i := 4) rfl skv2 .nil ((line2.map fun _ => true).map PyData.bool) (by rw [List.length_map, List.length_map]; omega) (by omega) (fun i2 u e2 D2 H7 hi2 hu he2 s7 hN2 hD2 PP2 hP2 => ?_) (fun D2 ys2 H7 s7 hD2 eD2 dv2 _ => ?_)
    · obtain ⟨dn, n1, n2⟩ := alv.at hu
      rw [List.getElem?_map] at n1
      obtain ⟨ns, n3, rfl⟩ := Option.map_eq_some_iff.mp n1
      rw [List.map_map, List.getElem?_map, n3] at he2
      obtain rfl := Option.some.inj he2
      walk_at "r"
      refine Jv.d_isT (n2.same (s2.trans s7)) ?_
      exact hP2 _ _ (Same.refl _) (.bl true)
    · walk_at "r"
      rw [Jv.hide_nil] at dv2
      rw [Jv.dv_bools dv2] at eD2
      refine ⟨D2, _, rfl, Jv.sqL_at eD2, ?_⟩
      rw [List.all_map]
      have eall : (line2.all ((id : Bool → Bool) ∘ fun _ => true)) = true := List.all_eq_true.mpr fun _ _ => rfl
      rw [eall]
      walk_at "r"
      have s27 := s2.trans s7
      refine .inr ⟨_, rfl, va, rfl, ⟨_, Jv.Same.sqT s27 sqv⟩, ?_⟩
      refine for_tup (xs := vs) (fun i σ H2 => ∃ y5, σ = [some (.ref a), some (.int l), some wv, some kv, some (.ref va), y5, none] ∧ Same H H2) ⟨_, rfl, s27⟩ (fun i σ H2 _ ⟨_, _, s2⟩ => Jv.Same.sqT s2 sqv) ?_ ?_
      · rintro j u σ H8 hu ⟨y5, rfl, s8⟩
        obtain ⟨dn, n1, n2⟩ := alv.at hu
        rw [List.getElem?_map] at n1
        obtain ⟨ns, n3, rfl⟩ := Option.map_eq_some_iff.mp n1
        obtain ⟨zs, skz, alz⟩ := (n2.same s8).sk rfl
        obtain rfl := Jv.dv_intsV alz
        obtain ⟨few60, _⟩ := hw.range hlm2 (List.mem_of_getElem? n3)
        walk_at "r"
        refine Jv.lcS2 (K := K) (N := []) (j := 6) (i := 5) rfl skz .nil ((ns.map fun _ => true).map PyData.bool) (by rw [List.length_map, List.length_map, List.length_map]) (by rw [List.length_map]; omega) (fun i3 z e3 D3 H9 hi3 hz he3 s9 hN3 hD3 PP3 hP3 => ?_) (fun D3 ys3 H9 s9 hD3 eD3 dv3 _ => ?_)
        · obtain ⟨zz, hzz, rfl⟩ := Jv.map_at hz
          rw [List.map_map, List.getElem?_map, hzz] at he3
          obtain rfl := Option.some.inj he3
          walk_at "r"
          refine ⟨_, _, rfl, .int zz, ?_⟩
          exact hP3 _ _ (Same.refl _) (.bl true)
        · walk_at "r"
          rw [Jv.hide_nil] at dv3
          rw [Jv.dv_bools dv3] at eD3
          refine ⟨D3, _, rfl, Jv.sqL_at eD3, ?_⟩
          rw [List.all_map]
          have eall3 : (ns.all ((id : Bool → Bool) ∘ fun _ => true)) = true := List.all_eq_true.mpr fun _ _ => rfl
          rw [eall3]
          walk_at "r"
          exact ⟨_, rfl, s8.trans s9⟩
      · rintro σ H8 ⟨y5, rfl, s8⟩
        exact ⟨_, _, rfl, s8⟩
  · rintro σ H2 ⟨y4, y5, rfl, s2⟩
    walk_at "r"
    exact k _ s2
end
end K02

namespace Jv
open PySem PySem.Spec PyProof.Rows L2
/-! ### comprehensions over a tuple that an expression makes; walks of any kind -/
section
variable {K : PySem.W.Frag} {σ : L2.St} {H : Hp} {te te0 : TE} {tt : TT} {Q : VK} {xs : List V} {es : List PyData} {j n : Nat} {N : List Addr}
theorem lc_any {J : It} {G : Hp → Prop} {Y : Nat → Hp → V → Hp → Prop} (w : Walk J n G Y) {B : V → Hp → (Hp → Prop) → Prop} {Fin : Hp → Prop} {H0 : Hp} (Pv : Nat → Hp → Prop) (h0 : Pv 0 H0) (hG : ∀ i H, i ≤ n → Pv i H → G H)
    (hs : ∀ i x H H', i < n → Pv i H → Y i H x H' → B x H' (Pv (i + 1))) (hd : ∀ H, Pv n H → Fin H) : ∃ W : Nat → Nat → Hp → Prop, (∃ m, W 0 m H0) ∧ ∀ i m H, W i m H →
      (J.stop i H ∧ Fin H) ∨ (J.go i H ∧ ∃ Nx : Hp → Prop, (∀ H', Nx H' → ∃ m', m' < m ∧ W (i + 1) m' H') ∧ ∀ x H', J.yld i H x H' → B x H' Nx) := by
  refine ⟨fun i m H => m = n - i ∧ i ≤ n ∧ Pv i H, ⟨n, by simp, Nat.zero_le _, h0⟩, ?_⟩
  rintro i m H ⟨rfl, hi, p⟩
  have q := hG i H hi p
  by_cases lt : i < n
  · exact .inr ⟨w.goes i H lt q, Pv (i + 1), fun H' p' => ⟨n - (i + 1), by omega, rfl, lt, p'⟩, fun x H' y => hs i x H H' lt p (w.yields i H x H' lt q y)⟩
  · have e : i = n := by omega
    subst e
    exact .inl ⟨w.stops H q, hd H p⟩
theorem lc2_in {wi wi1 : TI} {g g1 : TG} {tt1 : TT} {vs vs1 : List Nat} (h : wi σ H fun J H1 => ∀ D, H1 D = none → ∃ W : Nat → Nat → Hp → Prop, (∃ m, W 0 m (upd H1 D (.lst []))) ∧ ∀ i m H, W i m H →
  (J.stop i H ∧ Q (.ref D) H) ∨ (J.go i H ∧ ∃ Nx : Hp → Prop, (∀ H', Nx H' → ∃ m', m' < m ∧ W (i + 1) m' H') ∧ ∀ x H', J.yld i H x H' → g x (wipe σ vs) H' fun σ2 H2 => wipe σ2 vs = wipe σ vs ∧ tt σ2 H2 fun b H3 =>
    if b = true then wi1 σ2 H3 fun J1 H4 => ∃ W1 : Nat → Nat → Hp → Prop, (∃ m, W1 0 m H4) ∧ ∀ j k H, W1 j k H →
      (J1.stop j H ∧ Nx H) ∨ (J1.go j H ∧ ∃ Nx1 : Hp → Prop, (∀ H', Nx1 H' → ∃ k', k' < k ∧ W1 (j + 1) k' H') ∧ ∀ x H', J1.yld j H x H' → g1 x (wipe σ2 vs1) H' fun σ3 H5 => wipe σ3 vs1 = wipe σ2 vs1 ∧ tt1 σ3 H5 fun b H6 =>
        if b = true then te σ3 H6 fun y H7 => ∃ acc, H7 D = some (.lst acc) ∧ acc.length < sizeLine ∧ Nx1 (upd H7 D (.lst (acc ++ [y]))) else Nx1 H6)
    else Nx H3)) : tLc2 wi g tt wi1 g1 tt1 te vs vs1 σ H Q := h
/-- the numbers of a new tuple at which a test holds -/
theorem lcFT {ns : List Int} (hit : ∀ P : VK, (∀ t H1, Same H H1 → SqT K H1 t (ns.map V.int) → P (.ref t) H1) → te0 σ H P) (f : Int → Bool) (few : ns.length ≤ 1000)
    (ht : ∀ z H1, z ∈ ns → Same H H1 → ∀ R : Bool → Hp → Prop, (∀ H2, Same H1 H2 → R (f z) H2) → tt ((σ.set j none).set j (some (.int z))) H1 R)
    (hs : ∀ z H1, ∀ P : VK, P (.int z) H1 → te ((σ.set j none).set j (some (.int z))) H1 P)
    (hd : ∀ D H1, Same H H1 → H1 D = some (.lst ((ns.filter f).map V.int)) → Q (.ref D) H1) : tLc (iTup K te0) (gName j) tt te [j] σ H Q :=
  hit _ fun t H1 s1 sq => ⟨t, rfl, ⟨_, sq⟩, lcFW walk_tup (fun _ s => Jv.Same.sqT s sq) f few (fun z H2 m s2 R hR => ht z H2 m (s1.trans s2) R hR) hs fun D H2 s2 _ e => hd D H2 (s1.trans s2) e⟩
/-- results that are data, over a new tuple -/
theorem lcDT (hit : ∀ P : VK, (∀ t H1, Same H H1 → SqT K H1 t xs → P (.ref t) H1) → te0 σ H P) (es : List PyData) (hl : es.length = xs.length) (few : xs.length ≤ 1000)
    (hs : ∀ i v e D H1, i < xs.length → xs[i]? = some v → es[i]? = some e → Same H H1 → ∀ P : VK, (∀ y H2, Same H1 H2 → Dv K (hide [D] H2) y e → P y H2) → te ((σ.set j none).set j (some v)) H1 P)
    (hd : ∀ D ys H1, Same H H1 → H1 D = some (.lst ys) → DvAll K H1 ys es → Q (.ref D) H1) : tLc (iTup K te0) (gName j) tYes te [j] σ H Q :=
  hit _ fun t H1 s1 sq => ⟨t, rfl, ⟨_, sq⟩, lcD walk_tup (fun _ s => Jv.Same.sqT s sq) yat .nil es hl few (fun i v e D H2 hi hv he s2 _ _ P hP => hs i v e D H2 hi hv he (s1.trans s2) P hP) fun D ys H2 s2 _ e al _ => hd D ys H2 (s1.trans s2) e (by rw [hide_nil] at al; exact al)⟩
end
end Jv
namespace K02
open PySem PySem.Spec PyProof.Rows L2
/-! ### ends for a couple, what suits -/
def sp_ends_for (K : PySem.W.Frag) (C CC : Addr) : Sp := fun vs H Q E => ∃ a x l L k0 k1, ∃ p q : Nat, ∃ d, vs = [.ref a, x] ∧ GAt K H C a l (wantT L) k0 k1 p q ∧ Wd l L p q ∧ Jv.Dv K H x d ∧
  ((∃ e f, Jv.seqD d = some [.int e, .int f] ∧ (0 ≤ e ∧ e < p) ∧ (0 ≤ f ∧ f < q) ∧ ∀ v H', Same H H' → Jv.Dv K H' v (.tuple ((cell L e f).map .int)) → Q v H') ∨ (coupleD p q d = false ∧ ∀ H', Same H H' → E (.ref CC) none H'))
def suitB (c : List Int) (k0 k1 b0 b1 : Bool) (z : Int) : Bool := decide (z ∈ c) && (!k0 || b0) && (!k1 || b1)
def sp_suits (K : PySem.W.Frag) (C CC : Addr) : Sp := fun vs H Q E => ∃ a x z kn l L k0 k1, ∃ p q : Nat, ∃ d b0 b1, vs = [.ref a, x, .int z, kn] ∧ GAt K H C a l (wantT L) k0 k1 p q ∧ Wd l L p q ∧ Jv.Dv K H x d ∧ Jv.Sk K H kn [.bl b0, .bl b1] ∧
  ((∃ e f, Jv.seqD d = some [.int e, .int f] ∧ (0 ≤ e ∧ e < p) ∧ (0 ≤ f ∧ f < q) ∧ ∀ H', Same H H' → Q (.bl (suitB (cell L e f) k0 k1 b0 b1 z)) H') ∨ (coupleD p q d = false ∧ ∀ H', Same H H' → E (.ref CC) none H'))
section
variable {P : Program} {w : World} {K : PySem.W.Frag} {mg : Str → Option Value} {base : Heap}
theorem ok_Goals_ends_for (T : Tx) (O : Ok K mg T) : FnOk P w K mg base (L2.CX P w) 3 T.f_Goals_ends_for T.d_Goals_ends_for ["self", "couple"] (sp_ends_for K T.C_Goals T.C_BadCouple) := by
  refine O.F_Goals_ends_for.okX sc_Goals_ends_for (fun vs H Q E h => by obtain ⟨_, _, _, _, _, _, _, _, _, rfl, _⟩ := h; rfl) (fun cdv A outer s H vs Q E hr h => ?_)
  obtain ⟨a, x, l, L, k0, k1, p, q, d, rfl, hg, hw, hx, qq⟩ := h
  obtain ⟨dx, wv, kv, tv, hga, hW, hK, hS⟩ := id hg
  refine ⟨_, (pss_cons (ps_asg (pe_callS (ok_check_couple T O) (hr.mono (by decide)) (by rfl) O.m_check_couple O.F_check_couple.kp O.b_check_couple (fun σ => passAt (takes_of rfl rfl rfl rfl) σ) (pa_cons (show PE _ _ (tFld K _ _) from pe_fld (pv 0) rfl) (pa_cons (pv 1) pa_nil))) (pg_tup rfl (pgs_cons (pg_name (i := 2) sc_Goals_ends_for.nd rfl (Or.inl rfl)) (pgs_cons (pg_name (i := 3) sc_Goals_ends_for.nd rfl (Or.inl rfl)) pgs_nil))))
  (pss_one (ps_ret (pe_ix (r := rIx K) ix_seq (pe_ix (r := rIx K) ix_seq (show PE _ _ (tFld K _ _) from pe_fld (pv 0) rfl) (pv 2) (fun _ _ => rfl)) (pv 3) (fun _ _ => rfl))))), ?_⟩
  walk_at "r"
  refine Jv.r_fld ?_
  walk_at "r"
  refine ⟨a, _, dx, _, _, rfl, hga, O.o_Goals, O.n_Goals_sides, rfl, ?_⟩
  walk_at "r"
  obtain ⟨ss, skS, alS⟩ := hS.sk rfl
  obtain rfl := Jv.dv_intsV (ns := [(p : Int), (q : Int)]) alS
  refine ⟨_, _, _, _, _, rfl, skS, hx, ?_⟩
  rcases qq with ⟨e, f, h1, h2, h3, k⟩ | ⟨hf, k⟩
  · refine .inl ⟨e, f, h1, h2, h3, fun t H1 s1 ht1 => ?_⟩
    walk_at "r"
    refine Jv.r_fld ?_
    walk_at "r"
    refine ⟨a, _, dx, _, _, rfl, s1 _ _ hga, O.o_Goals, O.n_Goals_wanted, rfl, ?_⟩
    walk_at "r"
    obtain ⟨line, a1, a2, a3, a4⟩ := hw.at h2 h3
    obtain ⟨ws, skW, alW⟩ := (hW.same s1).sk rfl
    obtain ⟨wv1, b1, b2⟩ := alW.of (i := e.toNat) (d := lineT line) (by rw [List.getElem?_map, a1]; rfl)
    obtain ⟨us, skU, alU⟩ := b2.sk rfl
    obtain ⟨wv2, c1, c2⟩ := alU.of (i := f.toNat) (d := .tuple ((cell L e f).map .int)) (by rw [List.getElem?_map, a3]; rfl)
    refine skW.ix (Jv.at_i h2.1 b1) ?_
    walk_at "r"
    refine skU.ix (Jv.at_i h3.1 c1) ?_
    exact k _ _ s1 c2
  · exact .inr ⟨hf, fun H' s' => k H' s'⟩
end
end K02

namespace Jv
open PySem PySem.Spec PyProof.Rows L2
/-! ### what is made later -/
/-- H' without the lists that H has -/
def newer (H H' : Hp) : Hp := fun b => match H b with
  | some (.lst _) => none
  | _ => H' b
theorem DvAll.app {K : PySem.W.Frag} {H : Hp} : ∀ {vs ws : List V} {ds es : List PyData}, DvAll K H vs ds → DvAll K H ws es → DvAll K H (vs ++ ws) (ds ++ es)
  | _, _, _, _, .nil, q => q
  | _, _, _, _, .cons a b, q => .cons a (DvAll.app b q)
section
variable {K : PySem.W.Frag} {H H' H1 : Hp} {b : Addr} {o : HO} {N : List Addr}
theorem newer_le : Same (newer H H') H' := fun b o e => by
  unfold newer at e
  split at e
  · cases e
  · exact e
theorem newer_at (n : ∀ ys, H b ≠ some (.lst ys)) (e : H' b = some o) : newer H H' b = some o := by
  unfold newer
  split
  · rename_i ys h; exact (n ys h).elim
  · exact e
theorem newer_new (n : H b = none) (e : H' b = some o) : newer H H' b = some o := newer_at (fun ys h => by rw [n] at h; cases h) e
theorem newer_not (e : newer H H' b = some o) : (∀ ys, H b ≠ some (.lst ys)) ∧ H' b = some o := by
  refine ⟨fun ys h => ?_, newer_le b o e⟩
  unfold newer at e
  rw [h] at e; cases e
theorem newer_hide (hN : ∀ b ∈ N, ∃ ys, H b = some (.lst ys)) : Same (newer H H') (hide N H') := fun b o e => by
  obtain ⟨h1, h2⟩ := newer_not e
  exact hide_at (fun m => by obtain ⟨ys, h⟩ := hN b m; exact h1 ys h) h2
theorem newer_same (s : Same H' H1) : Same (newer H H') (newer H H1) := fun b o e => by
  obtain ⟨h1, h2⟩ := newer_not e
  exact newer_at h1 (s _ _ h2)
theorem newer_sub (hs : ∀ b ys, H b = some (.lst ys) → ∃ zs, H1 b = some (.lst zs)) : Same (newer H1 H') (newer H H') := fun b o e => by
  obtain ⟨h1, h2⟩ := newer_not e
  exact newer_at (fun ys h => by obtain ⟨zs, hz⟩ := hs b ys h; exact h1 zs hz) h2
end
end Jv
namespace K02
open PySem PySem.Spec PyProof.Rows L2
/-! ### goals that are equal; what the law sees of goals made, of ends asked; odd ladders, ends, truths -/
theorem eqvAll_map {α : Type} [DecidableEq α] {f : α → PyData} (h : ∀ x y, PyData.eqv (f x) (f y) = decide (x = y)) : ∀ l m : List α, PyData.eqvAll (l.map f) (m.map f) = decide (l = m)
  | [], [] => rfl
  | [], b :: s => by simp [PyData.eqvAll]
  | a :: r, [] => by simp [PyData.eqvAll]
  | a :: r, b :: s => by
    rw [List.map_cons, List.map_cons, PyData.eqvAll, h, eqvAll_map h r s]
    by_cases e1 : a = b <;> by_cases e2 : r = s <;> simp [e1, e2]
theorem eqv_wants (L1 L2 : List (List (List Int))) : PyData.eqv (wantT L1) (wantT L2) = decide (L1 = L2) := by
  unfold wantT
  rw [PyData.eqv]
  refine eqvAll_map (fun a b => ?_) _ _
  unfold lineT
  rw [PyData.eqv]
  refine eqvAll_map (fun c d => ?_) _ _
  rw [PyData.eqv]
  exact eqvAll_map (fun i j => by rw [PyData.eqv]; by_cases e : i = j <;> simp [e]) _ _
theorem eqv_bools (a b c d : Bool) : PyData.eqv (.tuple [.bool a, .bool b]) (.tuple [.bool c, .bool d]) = decide (a = c ∧ b = d) := by
  cases a <;> cases b <;> cases c <;> cases d <;> decide
def sp_Goals_eq (K : PySem.W.Frag) (C : Addr) : Sp := fun vs H Q _ => ∃ a b l L k0 k1, ∃ p q : Int, vs = [.ref a, .ref b] ∧ GAt K H C a l (wantT L) k0 k1 p q ∧
  ((∃ l2 L2 m0 m1, ∃ p2 q2 : Int, GAt K H C b l2 (wantT L2) m0 m1 p2 q2 ∧ Q (.bl (decide (l = l2 ∧ L = L2 ∧ k0 = m0 ∧ k1 = m1))) H) ∨ (∃ ys, SqT K H b ys ∧ Q (.bl false) H))
def sp_Lmade (K : PySem.W.Frag) (C : Addr) : Sp := fun vs H Q _ => ∃ xl dl xw dw xk dk, vs = [xl, xw, xk] ∧ Jv.Dv K H xl dl ∧ Jv.Dv K H xw dw ∧ Jv.few3 dw ∧ Jv.Dv K H xk dk ∧
  ((∃ f, faultG dl dw dk = some f ∧ ∀ r H', Same H H' → H r = none → H' r = some (.lst [.str "bad", .str f]) → Q (.ref r) H') ∨
   (∃ l lls k0 k1 p q, GoodG dl dw dk l lls k0 k1 p q ∧ ∀ r H', Same H H' → H r = none → GAt K H' C r l (wantD l lls) k0 k1 p q → Q (.ref r) H'))
def sp_Lends_told (K : PySem.W.Frag) (C : Addr) : Sp := fun vs H Q _ => ∃ a x l L k0 k1, ∃ p q : Nat, ∃ d, vs = [.ref a, x] ∧ GAt K H C a l (wantT L) k0 k1 p q ∧ Wd l L p q ∧ Jv.Dv K H x d ∧
  ((∃ e f, Jv.seqD d = some [.int e, .int f] ∧ (0 ≤ e ∧ e < p) ∧ (0 ≤ f ∧ f < q) ∧ ∀ v H', Same H H' → Jv.Dv K H' v (.tuple ((cell L e f).map .int)) → Q v H') ∨
   (coupleD p q d = false ∧ ∀ v H', Same H H' → Jv.Dv K H' v (.list [.str "bad"]) → Q v H'))
def sp_Lbad_ladder (K : PySem.W.Frag) : Sp := fun vs H Q _ => ∃ h hl, vs = [.ref h] ∧ Jv.Hand H h hl ∧ ∀ v d H', Jv.Dv K (Jv.hide [h] H') v d → Jv.wholeD d (.int 0) (.int 6) = false → Jv.Kp h H H' → Jv.Hand H' h hl → Q v H'
def sp_Lbad_knows (K : PySem.W.Frag) : Sp := fun vs H Q _ => ∃ h hl, vs = [.ref h] ∧ Jv.Hand H h hl ∧ ∀ v d H', Jv.Dv K (Jv.newer H H') v d → Jv.knowsD d = false → Jv.Kp h H H' → Jv.Hand H' h hl → Q v H'
theorem whole_out {i l : Int} (h : ¬ (0 ≤ i ∧ i ≤ l)) : Jv.wholeD (.int i) (.int 0) (.int l) = false := by
  cases e : Jv.wholeD (.int i) (.int 0) (.int l) with
  | false => rfl
  | true => obtain ⟨j, ej, a, b⟩ := Jv.wholeD_int e; cases ej; exact absurd ⟨a, b⟩ h
/-- one of a list's elements -/
theorem pickH {K : PySem.W.Frag} {H H2 : Hp} {Q : VK} {t : Addr} {xs : List V} {ds : List PyData} {z : Int} (e : H t = some (.lst xs)) (al : Jv.DvAll K H2 xs ds) (z0 : 0 ≤ z) (z1 : z < xs.length) (k : ∀ v d, d ∈ ds → Jv.Dv K H2 v d → Q v H) : rIxL K (.ref t) (.int z) H Q := by
  have hz : z.toNat < xs.length := by omega
  obtain ⟨d, hd, dv⟩ := al.at (List.getElem?_eq_getElem hz)
  exact Jv.r_ixL (Jv.sqL_at e) (Jv.at_i z0 (List.getElem?_eq_getElem hz)) (k _ d (List.mem_of_getElem? hd) dv)
section
variable {P : Program} {w : World} {K : PySem.W.Frag} {mg : Str → Option Value} {base : Heap}
theorem r_methC {m : Str} {C : Addr} {sp : Sp} {dvs : List V} {E : L2.St → XK} {ta : TE} {t : TA} {σ : L2.St} {H : Hp} {Q : VK} (h : ta σ H fun x H1 => ∃ a dx fs, x = .ref a ∧ H1 a = some (.ins C dx fs) ∧ fs.lookup m = none ∧ t σ H1 fun vs H2 => sp (x :: (vs ++ dvs)) H2 Q (E σ)) : Jv.tMethX C m sp dvs E ta t σ H Q := h
theorem r_makeC {C : Addr} {sp : Sp} {dvs : List V} {E : L2.St → XK} {t : TA} {σ : L2.St} {H : Hp} {Q : VK} (h : t σ H fun vs H1 => ∀ x dx, H1 x = none → H1 dx = none → dx ≠ x →
  sp (.ref x :: (vs ++ dvs)) (upd (upd H1 dx (.own x)) x (.ins C dx [])) (fun v H2 => v = .non ∧ Q (.ref x) H2) (E σ)) : Jv.tMakeX C sp dvs E t σ H Q := h
theorem ok_Goalsu_equ (T : Tx) (O : Ok K mg T) : FnOk P w K mg base CX0 1 T.f_Goalsu_equ T.d_Goalsu_equ ["self", "other"] (sp_Goals_eq K T.C_Goals) := by
  refine O.F_Goalsu_equ.ok sc_Goalsu_equ (fun vs H Q E h => by obtain ⟨_, _, _, _, _, _, _, _, rfl, _⟩ := h; rfl) (fun cdv A outer s H vs Q E hr h => ?_)
  obtain ⟨a, b, l, L, k0, k1, p, q, rfl, ha, qq⟩ := h
  refine ⟨_, (pss_one (ps_ret (pe_and (pe_callB (r := rIsi K) call_isi (by rfl) O.z_isinstance (by decide +kernel) (pa_cons (pv 1) (pa_cons (pe_glob (v := .ref _) (by rfl) O.m_Goals rfl) pa_nil))) (pe_and (pe_cmpR op_eq (show PE _ _ (tFld K _ _) from pe_fld (pv 0) rfl) (show PE _ _ (tFld K _ _) from pe_fld (pv 1) rfl) (nomark _)) (pe_and (pe_cmpR (r := rEqD K) (op_eqD hr.units) (show PE _ _ (tFld K _ _) from pe_fld (pv 0) rfl) (show PE _ _ (tFld K _ _) from pe_fld (pv 1) rfl) (nomark _)) (pe_one (pe_cmpR (r := rEqD K) (op_eqD hr.units) (show PE _ _ (tFld K _ _) from pe_fld (pv 0) rfl) (show PE _ _ (tFld K _ _) from pe_fld (pv 1) rfl) (nomark _)))))))), ?_⟩
  obtain ⟨dx, wv, kv, tv, hca, hW, hK, _⟩ := id ha
  walk_at "r"
  rcases qq with ⟨l2, L2, m0, m1, p2, q2, hb, k⟩ | ⟨ys, hb, k⟩
  · obtain ⟨dx2, wv2, kv2, tv2, hcb, hW2, hK2, _⟩ := id hb
    refine ⟨_, _, _, _, true, rfl, .own T.C_Goals, .base (.ins hcb O.o_Goals O.i_Goals_ca O.i_Goals_cn O.i_Goals_ct O.i_Goals_cm), by simp [PySem.W.kitOne], ?_⟩
    walk_at "r"
    refine Jv.r_fld ?_
    walk_at "r"
    refine ⟨a, _, dx, _, _, rfl, hca, O.o_Goals, O.n_Goals_ladder, rfl, ?_⟩
    walk_at "r"
    refine Jv.r_fld ?_
    walk_at "r"
    refine ⟨b, _, dx2, _, _, rfl, hcb, O.o_Goals, O.n_Goals_ladder, rfl, ?_⟩
    walk_at "r"
    by_cases e1 : l = l2
    case neg =>
      rw [decide_eq_false (fun h => e1 h.1)] at k
      walk_at "r"
      rw [decide_eq_false (fun e => e1 (V.int.inj e)), if_neg Bool.false_ne_true]
      exact k
    subst e1
    walk_at "r"
    rw [decide_eq_true rfl, if_pos rfl]
    walk_at "r"
    refine Jv.r_fld ?_
    walk_at "r"
    refine ⟨a, _, dx, _, _, rfl, hca, O.o_Goals, O.n_Goals_wanted, rfl, ?_⟩
    walk_at "r"
    refine Jv.r_fld ?_
    walk_at "r"
    refine ⟨b, _, dx2, _, _, rfl, hcb, O.o_Goals, O.n_Goals_wanted, rfl, ?_⟩
    walk_at "r"
    refine ⟨_, _, hW.dp, hW2.dp, shaped_want _, shaped_want _, ?_⟩
    rw [eqv_wants]
    by_cases e2 : L = L2
    case neg =>
      rw [decide_eq_false (fun h => e2 h.2.1)] at k
      rw [decide_eq_false e2]
      walk_at "r"
      exact k
    subst e2
    rw [decide_eq_true rfl]
    walk_at "r"
    refine Jv.r_fld ?_
    walk_at "r"
    refine ⟨a, _, dx, _, _, rfl, hca, O.o_Goals, O.n_Goals_knows, rfl, ?_⟩
    walk_at "r"
    refine Jv.r_fld ?_
    walk_at "r"
    refine ⟨b, _, dx2, _, _, rfl, hcb, O.o_Goals, O.n_Goals_knows, rfl, ?_⟩
    walk_at "r"
    refine ⟨_, _, hK.dp, hK2.dp, shaped_bb _ _, shaped_bb _ _, ?_⟩
    rw [eqv_bools]
    have e3 : decide (l = l ∧ L = L ∧ k0 = m0 ∧ k1 = m1) = decide (k0 = m0 ∧ k1 = m1) := by simp
    rw [e3] at k
    exact k
  · refine ⟨_, _, _, _, false, rfl, .own T.C_Goals, Jv.tyT hb, O.i_Goals_kt, ?_⟩
    walk_at "r"
    exact k
theorem ok_Lmade (T : Tx) (O : Ok K mg T) : FnOk P w K mg base CX0 5 T.f_Lmade T.d_Lmade ["_law_ladder", "_law_wanted", "_law_known"] (sp_Lmade K T.C_Goals) := by
  refine O.F_Lmade.ok sc_Lmade (fun vs H Q E h => by obtain ⟨_, _, _, _, _, _, rfl, _⟩ := h; rfl) (fun cdv A outer s H vs Q E hr h => ?_)
  obtain ⟨xl, dl, xw, dw, xk, dk, rfl, hl, hw, fw, hk, qq⟩ := h
  refine ⟨_, (pss_one (ps_try_as (i := 3) rfl rfl sc_Lmade.nd rfl rfl ⟨rfl, by decide, .inl O.m_BadGoals⟩ takes0 (fun W pn xe tk _ => (pss_one (ps_ret (Jv.pe_makeX O.k_Goals (ok_Goalsu_initu T O) (hr.mono (by decide)) (by rfl) O.m_Goals O.b_Goalsu_initu .nil (fun σ => passAt tk σ) (pa_cons (pv 0) (pa_cons (pv 1) (pa_cons (pv 2) pa_nil))))))) (fun a oe cls d pn hz hf => (pss_one (ps_ret (pe_lst (pa_cons pe_str (pa_cons (pe_xf O.x_BadGoals.f O.n_BadGoals_what hz hf (pv 3)) pa_nil)))))))), ?_⟩
  walk_at "r"
  refine r_makeC ?_
  walk_at "r"
  rcases qq with ⟨f, ef, k⟩ | ⟨l, lls, k0, k1, p, q, g, k⟩
  · refine mk_bad hl hw fw hk ef fun e H1 s1 hd => ?_
    refine ⟨true, O.x_BadGoals.e, fun _ a ha => ?_, fun z => nomatch z⟩
    walk_at "r"
    refine ⟨_, rfl, rfl, rfl, e, _, _, rfl, hd, rfl, ?_⟩
    walk_at "r"
    exact fun r hr => k r _ (s1.trans (Jv.same_new hr)) (s1.free hr) upd_same
  · exact mk_good hl hw hk g fun r H' s' hn ga => k r _ s' hn ga
theorem ok_Lends_told (T : Tx) (O : Ok K mg T) : FnOk P w K mg base CX0 4 T.f_Lends_told T.d_Lends_told ["_law_goals", "_law_couple"] (sp_Lends_told K T.C_Goals) := by
  refine O.F_Lends_told.ok sc_Lends_told (fun vs H Q E h => by obtain ⟨_, _, _, _, _, _, _, _, _, rfl, _⟩ := h; rfl) (fun cdv A outer s H vs Q E hr h => ?_)
  obtain ⟨a, x, l, L, k0, k1, p, q, d, rfl, hg, hw, hx, qq⟩ := h
  refine ⟨_, (pss_one (ps_try_only rfl rfl ⟨rfl, by decide, .inl O.m_BadCouple⟩ takes0 (fun W pn xe tk _ => (pss_one (ps_ret (Jv.pe_methX (pv 0) O.o_Goals O.h_Goals_ends_for (ok_Goals_ends_for T O) (hr.mono (by decide)) O.b_Goals_ends_for .nil (fun σ => passAt tk σ) (pa_cons (pv 1) pa_nil))))) (fun a oe cls d pn _ _ => (pss_one (ps_ret (pe_lst (pa_cons pe_str pa_nil))))))), ?_⟩
  obtain ⟨dx, wv, kv, tv, hga, _⟩ := id hg
  walk_at "r"
  refine r_methC ?_
  walk_at "r"
  refine ⟨a, dx, _, rfl, hga, rfl, ?_⟩
  walk_at "r"
  refine ⟨a, x, l, L, k0, k1, p, q, d, rfl, hg, hw, hx, ?_⟩
  rcases qq with h | ⟨hf, k⟩
  · exact .inl h
  · refine .inr ⟨hf, fun H1 s1 => ?_⟩
    refine ⟨true, O.e_BadCouple.e, fun _ a ha => ?_, fun z => nomatch z⟩
    walk_at "r"
    exact fun r hr => k _ _ (s1.trans (Jv.same_new hr)) (.lst upd_same (.cons (.str _) .nil))
theorem ok_Lbad_ladder (T : Tx) (O : Ok K mg T) : FnOk P w K mg base CX0 3 T.f_Lbad_ladder T.d_Lbad_ladder ["_law_hand_here"] (sp_Lbad_ladder K) := by
  refine O.F_Lbad_ladder.ok sc_Lbad_ladder (fun vs H Q E h => by obtain ⟨_, _, rfl, _⟩ := h; rfl) (fun cdv A outer s H vs Q E hr h => ?_)
  obtain ⟨h, hl, rfl, hh, k⟩ := h
  refine ⟨_, (pss_one (ps_ret (pe_ix (r := rIxL K) ix_list (pe_lst (pa_cons pe_non (pa_cons pe_bl (pa_cons (pe_un un_neg pe_int) (pa_cons pe_int (pa_cons pe_str (pa_cons (pe_tup (pa_cons pe_int pa_nil)) (pa_cons (pe_op op_add pe_int (pe_call (ok_Ldraw T O) (hr.mono (by decide)) (by rfl) O.m_Ldraw O.F_Ldraw.kp O.b_Ldraw .nil pass0 (pa_cons (pv 0) (pa_cons (pe_op op_pow pe_int pe_int) pa_nil)))) (pa_cons pe_bl pa_nil))))))))) (pe_call (ok_Ldraw T O) (hr.mono (by decide)) (by rfl) O.m_Ldraw O.F_Ldraw.kp O.b_Ldraw .nil pass0 (pa_cons (pv 0) (pa_cons pe_int pa_nil))) (fun _ _ => rfl)))), ?_⟩
  walk_at "r"
  intro t ht
  obtain ⟨m1, _⟩ := hh.ne2 ht
  have n1 := Jv.same_new (u := .tup [.int 2]) ht
  have hh1 := hh.same n1
  have et : upd H t (.tup [.int 2]) t = some (.tup [.int 2]) := upd_same
  generalize upd H t (.tup [.int 2]) = H1 at n1 hh1 et ⊢
  walk_at "r"
  refine ⟨h, hl, _, rfl, hh1, ⟨by decide, Jv.log_small (by decide) (by decide)⟩, fun z H2 z0 z1 kp2 hh2 => ?_⟩
  walk_at "r"
  intro t2 ht2
  obtain ⟨m2, _⟩ := hh2.ne2 ht2
  have n2 := Jv.same_new (u := .lst [.non, .bl true, .int (-1), .int 7, .str "3", .ref t, .int (7 + z), .bl false]) ht2
  have hh3 := hh2.same n2
  walk_at "r"
  refine ⟨h, hl, 8, rfl, hh3, ⟨by decide, Jv.log_small (by decide) (by decide)⟩, fun y H4 y0 y1 kp4 hh4 => ?_⟩
  have ep := kp4 _ _ m2 upd_same
  have et4 := kp4 _ _ m1 (n2 _ _ (kp2 _ _ m1 et))
  have kp04 : Jv.Kp h H H4 := (Jv.Kp.same n1).trans (kp2.trans ((Jv.Kp.same n2).trans kp4))
  walk_at "r"
  refine pickH ep (.cons .non (.cons (.bl _) (.cons (.int _) (.cons (.int _) (.cons (.str _) (.cons (.tup (Jv.sqT_at (Jv.hide_at (fun m => m1 (List.mem_singleton.mp m)) et4)) (.cons (.int 2) .nil)) (.cons (.int _) (.cons (.bl _) .nil)))))))) y0 (by simpa using y1) fun v d hd dv => ?_
  refine k _ _ _ dv ?_ kp04 hh4
  simp only [List.mem_cons, List.not_mem_nil, or_false] at hd
  rcases hd with rfl | rfl | rfl | rfl | rfl | rfl | rfl | rfl
  · rfl
  · rfl
  · exact whole_out (by omega)
  · exact whole_out (by omega)
  · rfl
  · rfl
  · exact whole_out (by omega)
  · rfl
theorem ok_Lbad_knows (T : Tx) (O : Ok K mg T) : FnOk P w K mg base CX0 3 T.f_Lbad_knows T.d_Lbad_knows ["_law_hand_here"] (sp_Lbad_knows K) := by
  refine O.F_Lbad_knows.ok sc_Lbad_knows (fun vs H Q E h => by obtain ⟨_, _, rfl, _⟩ := h; rfl) (fun cdv A outer s H vs Q E hr h => ?_)
  obtain ⟨h, hl, rfl, hh, k⟩ := h
  refine ⟨_, (pss_one (ps_ret (pe_ix (r := rIxL K) ix_list (pe_lst (pa_cons pe_non (pa_cons (pe_tup (pa_cons pe_bl pa_nil)) (pa_cons (pe_tup (pa_cons pe_bl (pa_cons pe_bl (pa_cons pe_bl pa_nil)))) (pa_cons (pe_tup (pa_cons pe_int (pa_cons pe_int pa_nil))) (pa_cons (pe_tup (pa_cons pe_bl (pa_cons pe_non pa_nil))) (pa_cons pe_str (pa_cons (pe_lst (pa_cons pe_bl (pa_cons pe_int pa_nil))) (pa_cons (pe_tup pa_nil) pa_nil))))))))) (pe_call (ok_Ldraw T O) (hr.mono (by decide)) (by rfl) O.m_Ldraw O.F_Ldraw.kp O.b_Ldraw .nil pass0 (pa_cons (pv 0) (pa_cons pe_int pa_nil))) (fun _ _ => rfl)))), ?_⟩
  walk_at "r"
  intro t1 f1
  obtain ⟨m1, _⟩ := hh.ne2 f1
  obtain ⟨G1, e1, s1, a1⟩ : ∃ G, upd H t1 (.tup [.bl true]) = G ∧ Same H G ∧ G t1 = some (.tup [.bl true]) := ⟨_, rfl, Jv.same_new f1, upd_same⟩
  have g1 := hh.same s1
  rw [e1]
  clear e1
  walk_at "r"
  intro t2 f2
  obtain ⟨m2, _⟩ := g1.ne2 f2
  obtain ⟨G2, e2, s2, a2⟩ : ∃ G, upd G1 t2 (.tup [.bl true, .bl false, .bl true]) = G ∧ Same G1 G ∧ G t2 = some (.tup [.bl true, .bl false, .bl true]) := ⟨_, rfl, Jv.same_new f2, upd_same⟩
  have g2 := g1.same s2
  rw [e2]
  clear e2
  walk_at "r"
  intro t3 f3
  obtain ⟨m3, _⟩ := g2.ne2 f3
  obtain ⟨G3, e3, s3, a3⟩ : ∃ G, upd G2 t3 (.tup [.int 0, .int 1]) = G ∧ Same G2 G ∧ G t3 = some (.tup [.int 0, .int 1]) := ⟨_, rfl, Jv.same_new f3, upd_same⟩
  have g3 := g2.same s3
  rw [e3]
  clear e3
  walk_at "r"
  intro t4 f4
  obtain ⟨m4, _⟩ := g3.ne2 f4
  obtain ⟨G4, e4, s4, a4⟩ : ∃ G, upd G3 t4 (.tup [.bl true, .non]) = G ∧ Same G3 G ∧ G t4 = some (.tup [.bl true, .non]) := ⟨_, rfl, Jv.same_new f4, upd_same⟩
  have g4 := g3.same s4
  rw [e4]
  clear e4
  walk_at "r"
  intro t5 f5
  obtain ⟨m5, _⟩ := g4.ne2 f5
  obtain ⟨G5, e5, s5, a5⟩ : ∃ G, upd G4 t5 (.lst [.bl false, .int 0]) = G ∧ Same G4 G ∧ G t5 = some (.lst [.bl false, .int 0]) := ⟨_, rfl, Jv.same_new f5, upd_same⟩
  have g5 := g4.same s5
  rw [e5]
  clear e5
  walk_at "r"
  intro t6 f6
  obtain ⟨m6, _⟩ := g5.ne2 f6
  obtain ⟨G6, e6, s6, a6⟩ : ∃ G, upd G5 t6 (.tup []) = G ∧ Same G5 G ∧ G t6 = some (.tup []) := ⟨_, rfl, Jv.same_new f6, upd_same⟩
  have g6 := g5.same s6
  rw [e6]
  clear e6
  walk_at "r"
  intro t7 f7
  obtain ⟨m7, _⟩ := g6.ne2 f7
  obtain ⟨G7, e7, s7, a7⟩ : ∃ G, upd G6 t7 (.lst [.non, .ref t1, .ref t2, .ref t3, .ref t4, .str "ab", .ref t5, .ref t6]) = G ∧ Same G6 G ∧ G t7 = some (.lst [.non, .ref t1, .ref t2, .ref t3, .ref t4, .str "ab", .ref t5, .ref t6]) := ⟨_, rfl, Jv.same_new f7, upd_same⟩
  have g7 := g6.same s7
  rw [e7]
  clear e7
  walk_at "r"
  refine ⟨h, hl, 8, rfl, g7, ⟨by decide, Jv.log_small (by decide) (by decide)⟩, fun y H4 y0 y1 kp4 hh4 => ?_⟩
  have ep := kp4 _ _ m7 a7
  have tu : ∀ t o, t ≠ h → H t = none → G7 t = some o → Jv.newer H H4 t = some o := fun t o n f e => Jv.newer_new f (kp4 _ _ n e)
  have b1 := tu _ _ m1 f1 (s7 _ _ (s6 _ _ (s5 _ _ (s4 _ _ (s3 _ _ (s2 _ _ a1))))))
  have b2 := tu _ _ m2 (s1.free f2) (s7 _ _ (s6 _ _ (s5 _ _ (s4 _ _ (s3 _ _ a2)))))
  have b3 := tu _ _ m3 (s1.free (s2.free f3)) (s7 _ _ (s6 _ _ (s5 _ _ (s4 _ _ a3))))
  have b4 := tu _ _ m4 (s1.free (s2.free (s3.free f4))) (s7 _ _ (s6 _ _ (s5 _ _ a4)))
  have b5 := tu _ _ m5 (s1.free (s2.free (s3.free (s4.free f5)))) (s7 _ _ (s6 _ _ a5))
  have b6 := tu _ _ m6 (s1.free (s2.free (s3.free (s4.free (s5.free f6))))) (s7 _ _ a6)
  have kp04 : Jv.Kp h H H4 := (Jv.Kp.same (s1.trans (s2.trans (s3.trans (s4.trans (s5.trans (s6.trans s7))))))).trans kp4
  walk_at "r"
  have al : Jv.DvAll K (Jv.newer H H4) [.non, .ref t1, .ref t2, .ref t3, .ref t4, .str "ab", .ref t5, .ref t6]
      [.none, .tuple [.bool true], .tuple [.bool true, .bool false, .bool true], .tuple [.int 0, .int 1], .tuple [.bool true, .none], .str "ab", .list [.bool false, .int 0], .tuple []] :=
    .cons .non (.cons (.tup (Jv.sqT_at b1) (.cons (.bl _) .nil)) (.cons (.tup (Jv.sqT_at b2) (.cons (.bl _) (.cons (.bl _) (.cons (.bl _) .nil)))) (.cons (.tup (Jv.sqT_at b3) (.cons (.int _) (.cons (.int _) .nil)))
      (.cons (.tup (Jv.sqT_at b4) (.cons (.bl _) (.cons .non .nil))) (.cons (.str _) (.cons (.lst b5 (.cons (.bl _) (.cons (.int _) .nil))) (.cons (.tup (Jv.sqT_at b6) .nil) .nil)))))))
  refine pickH ep al y0 (by simpa using y1) fun v d hd dv => ?_
  refine k _ _ _ dv ?_ kp04 hh4
  simp only [List.mem_cons, List.not_mem_nil, or_false] at hd
  rcases hd with rfl | rfl | rfl | rfl | rfl | rfl | rfl | rfl <;> rfl
end
end K02

namespace K02
open PySem PySem.Spec PyProof.Rows L2
/-! ### odd ends, odd lines, other ends -/
def sp_Lbad_ends (K : PySem.W.Frag) : Sp := fun vs H Q _ => ∃ h hl l, vs = [.ref h, .int l] ∧ Jv.Hand H h hl ∧ (0 ≤ l ∧ l ≤ 6) ∧ ∀ v d H', Jv.Dv K (Jv.newer H H') v d → Jv.endsD l d = false → Jv.few1 d → Jv.Kp h H H' → Jv.Hand H' h hl → Q v H'
theorem pickG {K : PySem.W.Frag} {H H2 : Hp} {Q : VK} {t : Addr} {xs : List V} {ds : List PyData} {z : Int} (e : H t = some (.lst xs)) (al : Jv.DvAll K H2 xs ds) (z0 : 0 ≤ z) (z1 : z < xs.length) (k : ∀ v d, d ∈ ds → Jv.Dv K H2 v d → Q v H) : rIxL K (.ref t) (.int z) H Q := by
  have hz : z.toNat < xs.length := by omega
  obtain ⟨d, hd, dv⟩ := al.at (List.getElem?_eq_getElem hz)
  exact Jv.r_ixL (Jv.sqL_at e) (Jv.at_i z0 (List.getElem?_eq_getElem hz)) (k _ d (List.mem_of_getElem? hd) dv)
theorem pickGS {K : PySem.W.Frag} {H H2 : Hp} {Q : VK} {t : Addr} {xs : List V} {ds : List PyData} {z : Int} (e : H t = some (.lst xs)) (al : Jv.DvAll K H2 xs ds) (z0 : 0 ≤ z) (z1 : z < xs.length) (k : ∀ v d, d ∈ ds → Jv.Dv K H2 v d → Q v H) : rIx K (.ref t) (.int z) H Q := by
  have hz : z.toNat < xs.length := by omega
  obtain ⟨d, hd, dv⟩ := al.at (List.getElem?_eq_getElem hz)
  exact Jv.Sk.ix (xs := xs) ⟨t, rfl, .inl (Jv.sqL_at e)⟩ (Jv.at_i z0 (List.getElem?_eq_getElem hz)) (k _ d (List.mem_of_getElem? hd) dv)
theorem whole_no {i l : Int} (h : ¬ (-l ≤ i ∧ i ≤ l)) : Jv.wholeD (.int i) (.int (-l)) (.int l) = false := by
  cases e : Jv.wholeD (.int i) (.int (-l)) (.int l) with
  | false => rfl
  | true => obtain ⟨j, ej, a, b⟩ := Jv.wholeD_int e; cases ej; exact absurd ⟨a, b⟩ h
theorem ends_bad {l : Int} {d e : PyData} {ds : List PyData} (hs : Jv.seqD d = some ds) (m : e ∈ ds) (h : Jv.wholeD e (.int (-l)) (.int l) = false) : Jv.endsD l d = false := by
  unfold Jv.endsD
  rw [hs]; dsimp only
  rw [Bool.and_eq_false_iff]
  refine .inr ?_
  cases c : ds.all fun e => Jv.wholeD e (.int (-l)) (.int l) with
  | false => rfl
  | true => rw [List.all_eq_true.mp c e m] at h; cases h
section
variable {P : Program} {w : World} {K : PySem.W.Frag} {mg : Str → Option Value} {base : Heap}
theorem ok_Lbad_ends (T : Tx) (O : Ok K mg T) : FnOk P w K mg base CX0 3 T.f_Lbad_ends T.d_Lbad_ends ["_law_hand_here", "_law_ladder"] (sp_Lbad_ends K) := by
  refine O.F_Lbad_ends.ok sc_Lbad_ends (fun vs H Q E h => by obtain ⟨_, _, _, rfl, _⟩ := h; rfl) (fun cdv A outer s H vs Q E hr h => ?_)
  obtain ⟨h, hl, l, rfl, hh, ⟨l0, l6⟩, k⟩ := h
  refine ⟨_, (pss_one (ps_ret (pe_ix (r := rIxL K) ix_list (pe_lst (pa_cons pe_non (pa_cons (pe_tup pa_nil) (pa_cons pe_int (pa_cons (pe_lst (pa_cons (pe_op op_add (pv 1) pe_int) pa_nil)) (pa_cons (pe_lst (pa_cons pe_int (pa_cons (pe_op op_sub (pe_un un_neg (pv 1)) pe_int) pa_nil))) (pa_cons (pe_lst (pa_cons pe_int (pa_cons pe_bl pa_nil))) (pa_cons (pe_lst (pa_cons pe_str pa_nil)) (pa_cons (pe_lst (pa_cons pe_non pa_nil)) (pa_cons (pe_tup (pa_cons pe_int (pa_cons (pe_tup (pa_cons pe_int pa_nil)) pa_nil))) pa_nil)))))))))) (pe_call (ok_Ldraw T O) (hr.mono (by decide)) (by rfl) O.m_Ldraw O.F_Ldraw.kp O.b_Ldraw .nil pass0 (pa_cons (pv 0) (pa_cons pe_int pa_nil))) (fun _ _ => rfl)))), ?_⟩
  walk_at "r"
  intro t1 f1
  obtain ⟨m1, _⟩ := hh.ne2 f1
  obtain ⟨G1, e1, s1, a1⟩ : ∃ G, upd H t1 (.tup []) = G ∧ Same H G ∧ G t1 = some (.tup []) := ⟨_, rfl, Jv.same_new f1, upd_same⟩
  have g1 := hh.same s1
  rw [e1]
  clear e1
  walk_at "r"
  intro t2 f2
  obtain ⟨m2, _⟩ := g1.ne2 f2
  obtain ⟨G2, e2, s2, a2⟩ : ∃ G, upd G1 t2 (.lst [.int (l + 1)]) = G ∧ Same G1 G ∧ G t2 = some (.lst [.int (l + 1)]) := ⟨_, rfl, Jv.same_new f2, upd_same⟩
  have g2 := g1.same s2
  rw [e2]
  clear e2
  walk_at "r"
  intro t3 f3
  obtain ⟨m3, _⟩ := g2.ne2 f3
  obtain ⟨G3, e3, s3, a3⟩ : ∃ G, upd G2 t3 (.lst [.int 0, .int (-l - 1)]) = G ∧ Same G2 G ∧ G t3 = some (.lst [.int 0, .int (-l - 1)]) := ⟨_, rfl, Jv.same_new f3, upd_same⟩
  have g3 := g2.same s3
  rw [e3]
  clear e3
  walk_at "r"
  intro t4 f4
  obtain ⟨m4, _⟩ := g3.ne2 f4
  obtain ⟨G4, e4, s4, a4⟩ : ∃ G, upd G3 t4 (.lst [.int 0, .bl true]) = G ∧ Same G3 G ∧ G t4 = some (.lst [.int 0, .bl true]) := ⟨_, rfl, Jv.same_new f4, upd_same⟩
  have g4 := g3.same s4
  rw [e4]
  clear e4
  walk_at "r"
  intro t5 f5
  obtain ⟨m5, _⟩ := g4.ne2 f5
  obtain ⟨G5, e5, s5, a5⟩ : ∃ G, upd G4 t5 (.lst [.str "0"]) = G ∧ Same G4 G ∧ G t5 = some (.lst [.str "0"]) := ⟨_, rfl, Jv.same_new f5, upd_same⟩
  have g5 := g4.same s5
  rw [e5]
  clear e5
  walk_at "r"
  intro t6 f6
  obtain ⟨m6, _⟩ := g5.ne2 f6
  obtain ⟨G6, e6, s6, a6⟩ : ∃ G, upd G5 t6 (.lst [.non]) = G ∧ Same G5 G ∧ G t6 = some (.lst [.non]) := ⟨_, rfl, Jv.same_new f6, upd_same⟩
  have g6 := g5.same s6
  rw [e6]
  clear e6
  walk_at "r"
  intro t7 f7
  obtain ⟨m7, _⟩ := g6.ne2 f7
  obtain ⟨G7, e7, s7, a7⟩ : ∃ G, upd G6 t7 (.tup [.int 0]) = G ∧ Same G6 G ∧ G t7 = some (.tup [.int 0]) := ⟨_, rfl, Jv.same_new f7, upd_same⟩
  have g7 := g6.same s7
  rw [e7]
  clear e7
  walk_at "r"
  intro t8 f8
  obtain ⟨m8, _⟩ := g7.ne2 f8
  obtain ⟨G8, e8, s8, a8⟩ : ∃ G, upd G7 t8 (.tup [.int 0, .ref t7]) = G ∧ Same G7 G ∧ G t8 = some (.tup [.int 0, .ref t7]) := ⟨_, rfl, Jv.same_new f8, upd_same⟩
  have g8 := g7.same s8
  rw [e8]
  clear e8
  walk_at "r"
  intro t9 f9
  obtain ⟨m9, _⟩ := g8.ne2 f9
  obtain ⟨G9, e9, s9, a9⟩ : ∃ G, upd G8 t9 (.lst [.non, .ref t1, .int 0, .ref t2, .ref t3, .ref t4, .ref t5, .ref t6, .ref t8]) = G ∧ Same G8 G ∧ G t9 = some (.lst [.non, .ref t1, .int 0, .ref t2, .ref t3, .ref t4, .ref t5, .ref t6, .ref t8]) := ⟨_, rfl, Jv.same_new f9, upd_same⟩
  have g9 := g8.same s9
  rw [e9]
  clear e9
  have S9 : Same G9 G9 := Same.refl _
  have S8 : Same G8 G9 := s9.trans S9
  have S7 : Same G7 G9 := s8.trans S8
  have S6 : Same G6 G9 := s7.trans S7
  have S5 : Same G5 G9 := s6.trans S6
  have S4 : Same G4 G9 := s5.trans S5
  have S3 : Same G3 G9 := s4.trans S4
  have S2 : Same G2 G9 := s3.trans S3
  have S1 : Same G1 G9 := s2.trans S2
  have S0 : Same H G9 := s1.trans S1
  walk_at "r"
  refine ⟨h, hl, 9, rfl, g9, ⟨by decide, Jv.log_small (by decide) (by decide)⟩, fun y H4 y0 y1 kp4 hh4 => ?_⟩
  have ep := kp4 _ _ m9 a9
  have kp04 : Jv.Kp h H H4 := (Jv.Kp.same S0).trans kp4
  have old : ∀ t o, t ≠ h → H t = none → G9 t = some o → Jv.newer H H4 t = some o := fun t o n f e => Jv.newer_new f (kp4 _ _ n e)
  have F2 := s1.free f2
  have F3 := s1.free (s2.free f3)
  have F4 := s1.free (s2.free (s3.free f4))
  have F5 := s1.free (s2.free (s3.free (s4.free f5)))
  have F6 := s1.free (s2.free (s3.free (s4.free (s5.free f6))))
  have F7 := s1.free (s2.free (s3.free (s4.free (s5.free (s6.free f7)))))
  have F8 := s1.free (s2.free (s3.free (s4.free (s5.free (s6.free (s7.free f8))))))
  have b1 := old _ _ m1 f1 (S1 _ _ a1)
  have b2 := old _ _ m2 F2 (S2 _ _ a2)
  have b3 := old _ _ m3 F3 (S3 _ _ a3)
  have b4 := old _ _ m4 F4 (S4 _ _ a4)
  have b5 := old _ _ m5 F5 (S5 _ _ a5)
  have b6 := old _ _ m6 F6 (S6 _ _ a6)
  have b7 := old _ _ m7 F7 (S7 _ _ a7)
  have b8 := old _ _ m8 F8 (S8 _ _ a8)
  walk_at "r"
  have al : Jv.DvAll K (Jv.newer H H4) [.non, .ref t1, .int 0, .ref t2, .ref t3, .ref t4, .ref t5, .ref t6, .ref t8]
      [.none, .tuple [], .int 0, .list [.int (l + 1)], .list [.int 0, .int (-l - 1)], .list [.int 0, .bool true], .list [.str "0"], .list [.none], .tuple [.int 0, .tuple [.int 0]]] :=
    .cons .non (.cons (.tup (Jv.sqT_at b1) .nil) (.cons (.int _) (.cons (.lst b2 (.cons (.int _) .nil)) (.cons (.lst b3 (.cons (.int _) (.cons (.int _) .nil))) (.cons (.lst b4 (.cons (.int _) (.cons (.bl _) .nil)))
      (.cons (.lst b5 (.cons (.str _) .nil)) (.cons (.lst b6 (.cons .non .nil)) (.cons (.tup (Jv.sqT_at b8) (.cons (.int _) (.cons (.tup (Jv.sqT_at b7) (.cons (.int _) .nil)) .nil))) .nil))))))))
  refine pickG ep al y0 (by simpa using y1) fun v d hd dv => ?_
  have two : Jv.endsD l d = false ∧ Jv.few1 d := by
    simp only [List.mem_cons, List.not_mem_nil, or_false] at hd
    rcases hd with rfl | rfl | rfl | rfl | rfl | rfl | rfl | rfl | rfl
    · exact ⟨rfl, fun _ e => nomatch e⟩
    · exact ⟨rfl, fun _ e => by cases e; exact Nat.le_of_ble_eq_true rfl⟩
    · exact ⟨rfl, fun _ e => nomatch e⟩
    · exact ⟨ends_bad rfl (List.mem_singleton.mpr rfl) (whole_no (by omega)), fun _ e => by cases e; exact Nat.le_of_ble_eq_true rfl⟩
    · exact ⟨ends_bad rfl (List.mem_cons_of_mem _ (List.mem_singleton.mpr rfl)) (whole_no (by omega)), fun _ e => by cases e; exact Nat.le_of_ble_eq_true rfl⟩
    · exact ⟨ends_bad rfl (List.mem_cons_of_mem _ (List.mem_singleton.mpr rfl)) rfl, fun _ e => by cases e; exact Nat.le_of_ble_eq_true rfl⟩
    · exact ⟨ends_bad rfl (List.mem_singleton.mpr rfl) rfl, fun _ e => by cases e; exact Nat.le_of_ble_eq_true rfl⟩
    · exact ⟨ends_bad rfl (List.mem_singleton.mpr rfl) rfl, fun _ e => by cases e; exact Nat.le_of_ble_eq_true rfl⟩
    · exact ⟨ends_bad rfl (List.mem_cons_of_mem _ (List.mem_singleton.mpr rfl)) rfl, fun _ e => by cases e; exact Nat.le_of_ble_eq_true rfl⟩
  exact k _ _ _ dv two.1 two.2 kp04 hh4
end
end K02

namespace K02
open PySem PySem.Spec PyProof.Rows L2
/-! ### odd lines -/
theorem lines_some {dw : PyData} {p q : Nat} (h : Jv.linesD dw = some (p, q)) : ∃ rows, Jv.seqD dw = some rows ∧ rows.length = p ∧ ∀ r ∈ rows, ∃ es, Jv.seqD r = some es ∧ es.length = q := by
  unfold Jv.linesD at h
  cases er : Jv.seqD dw with
  | none => rw [er] at h; cases h
  | some rows =>
    rw [er] at h; dsimp only at h
    cases hb : rows.all (fun e => (Jv.seqD e).isSome) with
    | false => rw [hb, if_neg Bool.false_ne_true] at h; cases h
    | true =>
      rw [hb, if_pos rfl] at h
      refine ⟨rows, rfl, ?_⟩
      cases rows with
      | nil => cases h
      | cons a r =>
        rw [List.map_cons] at h
        dsimp only at h
        split at h
        · rename_i hall
          cases h
          refine ⟨by simp, fun x hx => ?_⟩
          obtain ⟨es, he⟩ := Option.isSome_iff_exists.mp (List.all_eq_true.mp hb x hx)
          refine ⟨es, he, ?_⟩
          rcases List.mem_cons.mp hx with rfl | hx
          · rw [he]; rfl
          · have := List.all_eq_true.mp hall _ (List.mem_map.mpr ⟨x, hx, rfl⟩)
            have := of_decide_eq_true this
            rw [he] at this
            exact this
        · cases h
theorem sides_some {o : Option (Nat × Nat)} (h : Jv.sidesD (sidesOf o) = true) : ∃ p q : Nat, o = some (p, q) ∧ (1 ≤ p ∧ p ≤ 6) ∧ (1 ≤ q ∧ q ≤ 6) ∧ p * q ≤ 12 := by
  cases o with
  | none => cases h
  | some pq =>
    obtain ⟨p, q⟩ := pq
    have h2 := of_decide_eq_true (show decide (((1 : Int) ≤ p ∧ (p : Int) ≤ 6) ∧ ((1 : Int) ≤ q ∧ (q : Int) ≤ 6) ∧ (p : Int) * q ≤ 12) = true from h)
    refine ⟨p, q, rfl, by omega, by omega, ?_⟩
    have := h2.2.2
    exact_mod_cast this
theorem bad_sides {d : PyData} {rows : List PyData} (hs : Jv.seqD d = some rows) (n : ∀ q : Nat, (∀ r ∈ rows, ∃ es, Jv.seqD r = some es ∧ es.length = q) → (1 ≤ rows.length ∧ rows.length ≤ 6) → (1 ≤ q ∧ q ≤ 6) → rows.length * q ≤ 12 → False) : Jv.sidesD (sidesOf (Jv.linesD d)) = false := by
  cases e : Jv.sidesD (sidesOf (Jv.linesD d)) with
  | false => rfl
  | true =>
    obtain ⟨p, q, eo, hp, hq, hpq⟩ := sides_some e
    obtain ⟨rows', er, lr, hr⟩ := lines_some eo
    rw [hs] at er
    cases er
    subst lr
    exact (n q hr hp hq hpq).elim
theorem no_sides {d : PyData} (hs : Jv.seqD d = none) : Jv.sidesD (sidesOf (Jv.linesD d)) = false := by
  cases e : Jv.sidesD (sidesOf (Jv.linesD d)) with
  | false => rfl
  | true =>
    obtain ⟨p, q, eo, _⟩ := sides_some e
    obtain ⟨rows', er, _⟩ := lines_some eo
    rw [hs] at er
    cases er
/-- lines of q entries each, of which nothing more is known -/
structure RowsQ (rows : List PyData) (p q : Nat) : Prop where
  hp : rows.length = p
  hq : ∀ r ∈ rows, ∃ es, r = .list es ∧ es.length = q ∧ ∀ e ∈ es, Jv.few1 e
  p0 : 1 ≤ p
  p6 : p ≤ 6
  q6 : q ≤ 6
theorem f1z : Jv.few1 (.list [.int 0]) := fun _ e => by cases e; exact Nat.le_of_ble_eq_true rfl
theorem f2_of {ds : List PyData} (h : ds.length ≤ 100) (h2 : ∀ e ∈ ds, Jv.few1 e) : Jv.few2 (.list ds) := fun es e => by cases e; exact ⟨h, h2⟩
theorem f3_of {ds : List PyData} (h : ds.length ≤ 100) (h2 : ∀ e ∈ ds, Jv.few2 e) : Jv.few3 (.list ds) := fun es e => by cases e; exact ⟨h, h2⟩
theorem f2_rep {ds : List PyData} (h : ds.length ≤ 100) (h2 : ∀ e ∈ ds, e = .list [.int 0]) : Jv.few2 (.list ds) := f2_of h fun e m => by rw [h2 e m]; exact f1z
def sp_Lbad_lines (K : PySem.W.Frag) : Sp := fun vs H Q _ => ∃ h hl x rows, ∃ p q : Nat, vs = [.ref h, x] ∧ Jv.Hand H h hl ∧ Jv.Dv K (Jv.hide [h] H) x (.list rows) ∧ RowsQ rows p q ∧
  ∀ v d H', Jv.Dv K (Jv.hide [h] H') v d → Jv.sidesD (sidesOf (Jv.linesD d)) = false → Jv.few3 d → Jv.Kp h H H' → Jv.Hand H' h hl → Q v H'
section
variable {P : Program} {w : World} {K : PySem.W.Frag} {mg : Str → Option Value} {base : Heap}
theorem ok_Lbad_lines (T : Tx) (O : Ok K mg T) : FnOk P w K mg base CX0 3 T.f_Lbad_lines T.d_Lbad_lines ["_law_hand_here", "_law_lines"] (sp_Lbad_lines K) := by
  refine O.F_Lbad_lines.ok sc_Lbad_lines (fun vs H Q E h => by obtain ⟨_, _, _, _, _, _, rfl, _⟩ := h; rfl) (fun cdv A outer s H vs Q E hr h => ?_)
  obtain ⟨h, hl, x, rows, p, q, rfl, hh, hx, hR, k⟩ := h
  refine ⟨_, (pss_cons (ps_setLc (i := 1) (own := [("_law_line", 3)]) (by rfl) sc_Lbad_lines.nd rfl rfl (sw_true rfl rfl rfl (by decide +kernel)) (Jv.piOr (show PI _ _ _ (iList K _) from pi_list (pv 1)) (show PI _ _ _ (iTup K _) from pi_tup (pv 1))) (blkOk_by (own := [("_law_line", 3)]) (N := ["_law_hand_here", "_law_lines", "_law_bad", "_law_line"]) (sc := defScope s_Lbad_lines) (scope := ({ kind := .function, names := [(".0", .local), ("_law_line", .local), ("list", .globalImplicit)], isGenerator := false, isCoroutine := false } : Scope)) (by decide +kernel)) (fun _ _ _ _ _ => (pg_name (i := 3) sc_Lbad_lines.nd rfl (Or.inl rfl))) (fun _ _ _ _ _ => pts_nil) (fun _ _ _ _ _ => (pe_callTy (r := Jv.rListOf K) call_list_of (by rfl) O.z_list (by decide +kernel) (pa_cons (pv 3) pa_nil))))
  (pss_cons (ps_set (i := 2) sc_Lbad_lines.nd rfl (Or.inl rfl) (pe_lst (pa_cons pe_non (pa_cons (pe_lst pa_nil) (pa_cons pe_int (pa_cons pe_str (pa_cons (pe_op op_cat (pv 1) (pe_lst (pa_cons (pe_op op_cat (pe_ix (r := rIx K) ix_seq (pv 1) pe_int (fun _ _ => rfl)) (pe_lst (pa_cons (pe_lst (pa_cons pe_int pa_nil)) pa_nil))) pa_nil))) (pa_cons (pe_op op_rep (pe_lst (pa_cons (pe_op op_rep (pe_lst (pa_cons (pe_lst (pa_cons pe_int pa_nil)) pa_nil)) pe_int) pa_nil)) pe_int) (pa_cons (pe_op op_rep (pe_lst (pa_cons (pe_lst (pa_cons (pe_lst (pa_cons pe_int pa_nil)) pa_nil)) pa_nil)) pe_int) (pa_cons (pe_lst (pa_cons (pe_lst pa_nil) pa_nil)) (pa_cons (pe_op op_cat (pe_lst (pa_cons pe_non pa_nil)) (pv 1)) (pa_cons (pe_lst (pa_cons (pe_op op_rep (pe_lst (pa_cons (pe_lst (pa_cons pe_int pa_nil)) pa_nil)) pe_int) pa_nil)) pa_nil))))))))))))
  (pss_one (ps_ret (pe_ix (r := rIx K) ix_seq (pv 2) (pe_call (ok_Ldraw T O) (hr.mono (by decide)) (by rfl) O.m_Ldraw O.F_Ldraw.kp O.b_Ldraw .nil pass0 (pa_cons (pv 0) (pa_cons pe_int pa_nil))) (fun _ _ => rfl)))))), ?_⟩
  have hp := hR.hp
  have p0 := hR.p0
  have p6 := hR.p6
  have q6 := hR.q6
  obtain ⟨ws, skW, alW⟩ := hx.sk rfl
  have lws := alW.len
  have hN : Jv.Held [h] H := fun b m => by rw [List.mem_singleton.mp m]; exact hh.at
  walk_at "r"
  refine Jv.lcS2 (K := K) (N := [h]) (j := 3) (i := 1) rfl (skW.same Jv.hide_le) hN rows (by omega) (by omega) (fun i v e D1 H6 hi hv he s6 hN1 hD1 PP hP => ?_) (fun D ys H1 s01 hD eD _ al => ?_)
  · obtain ⟨d, c1, c2⟩ := alW.at hv
    rw [he] at c1
    cases c1
    obtain ⟨es, rfl, _⟩ := hR.hq e (List.mem_of_getElem? he)
    have c3 := c2.same (Jv.hide_more s6 hD1)
    walk_at "r"
    cases c3 with
    | lst e1 q1 => exact Jv.r_listOf (.inl (Jv.sqL_at (Jv.hide_some e1).2)) fun M hM => hP _ _ (Jv.same_new hM) (.lst (Jv.hide_at (hN1.new hM) upd_same) (q1.same (Jv.hide_same (Jv.same_new hM))))
  have hh1 := hh.same s01
  obtain ⟨nDh, _⟩ := hh.ne2 hD
  have lys := al.len
  have y0' : ys[0]? = some ys[0] := List.getElem?_eq_getElem (by omega)
  obtain ⟨d0, hd0, dv0⟩ := al.at y0'
  obtain ⟨es0, rfl, le0, fe0⟩ := hR.hq d0 (List.mem_of_getElem? hd0)
  obtain ⟨R0, us, eRx, eR, al0⟩ : ∃ R us, ys[0] = .ref R ∧ H1 R = some (.lst us) ∧ Jv.DvAll K (Jv.hide [D, h] H1) us es0 := by
    generalize ys[0] = v at dv0
    cases dv0 with
    | lst e q => exact ⟨_, _, rfl, (Jv.hide_some e).2, q⟩
  have y0 := y0'
  rw [eRx] at y0
  have lus := al0.len
  walk_at "r"
  intro t1 f1
  obtain ⟨m1, _⟩ := hh1.ne2 f1
  obtain ⟨G1, e1, s1, a1⟩ : ∃ G, upd H1 t1 (.lst []) = G ∧ Same H1 G ∧ G t1 = some (.lst []) := ⟨_, rfl, Jv.same_new f1, upd_same⟩
  have g1 := hh1.same s1
  rw [e1]
  clear e1
  walk_at "r"
  refine Jv.Sk.ix (xs := ys) ⟨D, rfl, .inl (Jv.sqL_at (s1 _ _ eD))⟩ (Jv.at_i (k := 0) (by decide) y0) ?_
  walk_at "r"
  intro t2 f2
  obtain ⟨m2, _⟩ := g1.ne2 f2
  obtain ⟨G2, e2, s2, a2⟩ : ∃ G, upd G1 t2 (.lst [.int 0]) = G ∧ Same G1 G ∧ G t2 = some (.lst [.int 0]) := ⟨_, rfl, Jv.same_new f2, upd_same⟩
  have g2 := g1.same s2
  rw [e2]
  clear e2
  walk_at "r"
  intro t3 f3
  obtain ⟨m3, _⟩ := g2.ne2 f3
  obtain ⟨G3, e3, s3, a3⟩ : ∃ G, upd G2 t3 (.lst [.ref t2]) = G ∧ Same G2 G ∧ G t3 = some (.lst [.ref t2]) := ⟨_, rfl, Jv.same_new f3, upd_same⟩
  have g3 := g2.same s3
  rw [e3]
  clear e3
  walk_at "r"
  refine ⟨R0, t3, _, _, rfl, rfl, (s3 _ _ (s2 _ _ (s1 _ _ eR))), a3, Jv.small_of (by show us.length + 1 ≤ 1000; omega), fun t4 f4 => ?_⟩
  obtain ⟨m4, _⟩ := g3.ne2 f4
  obtain ⟨G4, e4, s4, a4⟩ : ∃ G, upd G3 t4 (.lst (us ++ [.ref t2])) = G ∧ Same G3 G ∧ G t4 = some (.lst (us ++ [.ref t2])) := ⟨_, rfl, Jv.same_new f4, upd_same⟩
  have g4 := g3.same s4
  rw [e4]
  clear e4
  walk_at "r"
  intro t5 f5
  obtain ⟨m5, _⟩ := g4.ne2 f5
  obtain ⟨G5, e5, s5, a5⟩ : ∃ G, upd G4 t5 (.lst [.ref t4]) = G ∧ Same G4 G ∧ G t5 = some (.lst [.ref t4]) := ⟨_, rfl, Jv.same_new f5, upd_same⟩
  have g5 := g4.same s5
  rw [e5]
  clear e5
  walk_at "r"
  refine ⟨D, t5, _, _, rfl, rfl, (s5 _ _ (s4 _ _ (s3 _ _ (s2 _ _ (s1 _ _ eD))))), a5, Jv.small_of (by show ys.length + 1 ≤ 1000; omega), fun t6 f6 => ?_⟩
  obtain ⟨m6, _⟩ := g5.ne2 f6
  obtain ⟨G6, e6, s6, a6⟩ : ∃ G, upd G5 t6 (.lst (ys ++ [.ref t4])) = G ∧ Same G5 G ∧ G t6 = some (.lst (ys ++ [.ref t4])) := ⟨_, rfl, Jv.same_new f6, upd_same⟩
  have g6 := g5.same s6
  rw [e6]
  clear e6
  walk_at "r"
  intro t7 f7
  obtain ⟨m7, _⟩ := g6.ne2 f7
  obtain ⟨G7, e7, s7, a7⟩ : ∃ G, upd G6 t7 (.lst [.int 0]) = G ∧ Same G6 G ∧ G t7 = some (.lst [.int 0]) := ⟨_, rfl, Jv.same_new f7, upd_same⟩
  have g7 := g6.same s7
  rw [e7]
  clear e7
  walk_at "r"
  intro t8 f8
  obtain ⟨m8, _⟩ := g7.ne2 f8
  obtain ⟨G8, e8, s8, a8⟩ : ∃ G, upd G7 t8 (.lst [.ref t7]) = G ∧ Same G7 G ∧ G t8 = some (.lst [.ref t7]) := ⟨_, rfl, Jv.same_new f8, upd_same⟩
  have g8 := g7.same s8
  rw [e8]
  clear e8
  walk_at "r"
  refine ⟨t8, 4, _, rfl, rfl, a8, by decide, by decide, Jv.small_of (Nat.le_of_ble_eq_true rfl), fun t9 f9 => ?_⟩
  rw [show (List.replicate (Int.toNat 4) [V.ref t7]).flatten = [.ref t7, .ref t7, .ref t7, .ref t7] from rfl]
  obtain ⟨m9, _⟩ := g8.ne2 f9
  obtain ⟨G9, e9, s9, a9⟩ : ∃ G, upd G8 t9 (.lst [.ref t7, .ref t7, .ref t7, .ref t7]) = G ∧ Same G8 G ∧ G t9 = some (.lst [.ref t7, .ref t7, .ref t7, .ref t7]) := ⟨_, rfl, Jv.same_new f9, upd_same⟩
  have g9 := g8.same s9
  rw [e9]
  clear e9
  walk_at "r"
  intro t10 f10
  obtain ⟨m10, _⟩ := g9.ne2 f10
  obtain ⟨G10, e10, s10, a10⟩ : ∃ G, upd G9 t10 (.lst [.ref t9]) = G ∧ Same G9 G ∧ G t10 = some (.lst [.ref t9]) := ⟨_, rfl, Jv.same_new f10, upd_same⟩
  have g10 := g9.same s10
  rw [e10]
  clear e10
  walk_at "r"
  refine ⟨t10, 4, _, rfl, rfl, a10, by decide, by decide, Jv.small_of (Nat.le_of_ble_eq_true rfl), fun t11 f11 => ?_⟩
  rw [show (List.replicate (Int.toNat 4) [V.ref t9]).flatten = [.ref t9, .ref t9, .ref t9, .ref t9] from rfl]
  obtain ⟨m11, _⟩ := g10.ne2 f11
  obtain ⟨G11, e11, s11, a11⟩ : ∃ G, upd G10 t11 (.lst [.ref t9, .ref t9, .ref t9, .ref t9]) = G ∧ Same G10 G ∧ G t11 = some (.lst [.ref t9, .ref t9, .ref t9, .ref t9]) := ⟨_, rfl, Jv.same_new f11, upd_same⟩
  have g11 := g10.same s11
  rw [e11]
  clear e11
  walk_at "r"
  intro t12 f12
  obtain ⟨m12, _⟩ := g11.ne2 f12
  obtain ⟨G12, e12, s12, a12⟩ : ∃ G, upd G11 t12 (.lst [.int 0]) = G ∧ Same G11 G ∧ G t12 = some (.lst [.int 0]) := ⟨_, rfl, Jv.same_new f12, upd_same⟩
  have g12 := g11.same s12
  rw [e12]
  clear e12
  walk_at "r"
  intro t13 f13
  obtain ⟨m13, _⟩ := g12.ne2 f13
  obtain ⟨G13, e13, s13, a13⟩ : ∃ G, upd G12 t13 (.lst [.ref t12]) = G ∧ Same G12 G ∧ G t13 = some (.lst [.ref t12]) := ⟨_, rfl, Jv.same_new f13, upd_same⟩
  have g13 := g12.same s13
  rw [e13]
  clear e13
  walk_at "r"
  intro t14 f14
  obtain ⟨m14, _⟩ := g13.ne2 f14
  obtain ⟨G14, e14, s14, a14⟩ : ∃ G, upd G13 t14 (.lst [.ref t13]) = G ∧ Same G13 G ∧ G t14 = some (.lst [.ref t13]) := ⟨_, rfl, Jv.same_new f14, upd_same⟩
  have g14 := g13.same s14
  rw [e14]
  clear e14
  walk_at "r"
  refine ⟨t14, 7, _, rfl, rfl, a14, by decide, by decide, Jv.small_of (Nat.le_of_ble_eq_true rfl), fun t15 f15 => ?_⟩
  rw [show (List.replicate (Int.toNat 7) [V.ref t13]).flatten = [.ref t13, .ref t13, .ref t13, .ref t13, .ref t13, .ref t13, .ref t13] from rfl]
  obtain ⟨m15, _⟩ := g14.ne2 f15
  obtain ⟨G15, e15, s15, a15⟩ : ∃ G, upd G14 t15 (.lst [.ref t13, .ref t13, .ref t13, .ref t13, .ref t13, .ref t13, .ref t13]) = G ∧ Same G14 G ∧ G t15 = some (.lst [.ref t13, .ref t13, .ref t13, .ref t13, .ref t13, .ref t13, .ref t13]) := ⟨_, rfl, Jv.same_new f15, upd_same⟩
  have g15 := g14.same s15
  rw [e15]
  clear e15
  walk_at "r"
  intro t16 f16
  obtain ⟨m16, _⟩ := g15.ne2 f16
  obtain ⟨G16, e16, s16, a16⟩ : ∃ G, upd G15 t16 (.lst []) = G ∧ Same G15 G ∧ G t16 = some (.lst []) := ⟨_, rfl, Jv.same_new f16, upd_same⟩
  have g16 := g15.same s16
  rw [e16]
  clear e16
  walk_at "r"
  intro t17 f17
  obtain ⟨m17, _⟩ := g16.ne2 f17
  obtain ⟨G17, e17, s17, a17⟩ : ∃ G, upd G16 t17 (.lst [.ref t16]) = G ∧ Same G16 G ∧ G t17 = some (.lst [.ref t16]) := ⟨_, rfl, Jv.same_new f17, upd_same⟩
  have g17 := g16.same s17
  rw [e17]
  clear e17
  walk_at "r"
  intro t18 f18
  obtain ⟨m18, _⟩ := g17.ne2 f18
  obtain ⟨G18, e18, s18, a18⟩ : ∃ G, upd G17 t18 (.lst [.non]) = G ∧ Same G17 G ∧ G t18 = some (.lst [.non]) := ⟨_, rfl, Jv.same_new f18, upd_same⟩
  have g18 := g17.same s18
  rw [e18]
  clear e18
  walk_at "r"
  refine ⟨t18, D, _, _, rfl, rfl, a18, (s18 _ _ (s17 _ _ (s16 _ _ (s15 _ _ (s14 _ _ (s13 _ _ (s12 _ _ (s11 _ _ (s10 _ _ (s9 _ _ (s8 _ _ (s7 _ _ (s6 _ _ (s5 _ _ (s4 _ _ (s3 _ _ (s2 _ _ (s1 _ _ eD)))))))))))))))))), Jv.small_of (by show 1 + ys.length ≤ 1000; omega), fun t19 f19 => ?_⟩
  obtain ⟨m19, _⟩ := g18.ne2 f19
  obtain ⟨G19, e19, s19, a19⟩ : ∃ G, upd G18 t19 (.lst ([.non] ++ ys)) = G ∧ Same G18 G ∧ G t19 = some (.lst ([.non] ++ ys)) := ⟨_, rfl, Jv.same_new f19, upd_same⟩
  have g19 := g18.same s19
  rw [e19]
  clear e19
  walk_at "r"
  intro t20 f20
  obtain ⟨m20, _⟩ := g19.ne2 f20
  obtain ⟨G20, e20, s20, a20⟩ : ∃ G, upd G19 t20 (.lst [.int 0]) = G ∧ Same G19 G ∧ G t20 = some (.lst [.int 0]) := ⟨_, rfl, Jv.same_new f20, upd_same⟩
  have g20 := g19.same s20
  rw [e20]
  clear e20
  walk_at "r"
  intro t21 f21
  obtain ⟨m21, _⟩ := g20.ne2 f21
  obtain ⟨G21, e21, s21, a21⟩ : ∃ G, upd G20 t21 (.lst [.ref t20]) = G ∧ Same G20 G ∧ G t21 = some (.lst [.ref t20]) := ⟨_, rfl, Jv.same_new f21, upd_same⟩
  have g21 := g20.same s21
  rw [e21]
  clear e21
  walk_at "r"
  refine ⟨t21, 7, _, rfl, rfl, a21, by decide, by decide, Jv.small_of (Nat.le_of_ble_eq_true rfl), fun t22 f22 => ?_⟩
  rw [show (List.replicate (Int.toNat 7) [V.ref t20]).flatten = [.ref t20, .ref t20, .ref t20, .ref t20, .ref t20, .ref t20, .ref t20] from rfl]
  obtain ⟨m22, _⟩ := g21.ne2 f22
  obtain ⟨G22, e22, s22, a22⟩ : ∃ G, upd G21 t22 (.lst [.ref t20, .ref t20, .ref t20, .ref t20, .ref t20, .ref t20, .ref t20]) = G ∧ Same G21 G ∧ G t22 = some (.lst [.ref t20, .ref t20, .ref t20, .ref t20, .ref t20, .ref t20, .ref t20]) := ⟨_, rfl, Jv.same_new f22, upd_same⟩
  have g22 := g21.same s22
  rw [e22]
  clear e22
  walk_at "r"
  intro t23 f23
  obtain ⟨m23, _⟩ := g22.ne2 f23
  obtain ⟨G23, e23, s23, a23⟩ : ∃ G, upd G22 t23 (.lst [.ref t22]) = G ∧ Same G22 G ∧ G t23 = some (.lst [.ref t22]) := ⟨_, rfl, Jv.same_new f23, upd_same⟩
  have g23 := g22.same s23
  rw [e23]
  clear e23
  walk_at "r"
  intro t24 f24
  obtain ⟨m24, _⟩ := g23.ne2 f24
  obtain ⟨G24, e24, s24, a24⟩ : ∃ G, upd G23 t24 (.lst [.non, .ref t1, .int 5, .str "a", .ref t6, .ref t11, .ref t15, .ref t17, .ref t19, .ref t23]) = G ∧ Same G23 G ∧ G t24 = some (.lst [.non, .ref t1, .int 5, .str "a", .ref t6, .ref t11, .ref t15, .ref t17, .ref t19, .ref t23]) := ⟨_, rfl, Jv.same_new f24, upd_same⟩
  have g24 := g23.same s24
  rw [e24]
  clear e24
  have S24 : Same G24 G24 := Same.refl _
  have S23 : Same G23 G24 := s24.trans S24
  have S22 : Same G22 G24 := s23.trans S23
  have S21 : Same G21 G24 := s22.trans S22
  have S20 : Same G20 G24 := s21.trans S21
  have S19 : Same G19 G24 := s20.trans S20
  have S18 : Same G18 G24 := s19.trans S19
  have S17 : Same G17 G24 := s18.trans S18
  have S16 : Same G16 G24 := s17.trans S17
  have S15 : Same G15 G24 := s16.trans S16
  have S14 : Same G14 G24 := s15.trans S15
  have S13 : Same G13 G24 := s14.trans S14
  have S12 : Same G12 G24 := s13.trans S13
  have S11 : Same G11 G24 := s12.trans S12
  have S10 : Same G10 G24 := s11.trans S11
  have S9 : Same G9 G24 := s10.trans S10
  have S8 : Same G8 G24 := s9.trans S9
  have S7 : Same G7 G24 := s8.trans S8
  have S6 : Same G6 G24 := s7.trans S7
  have S5 : Same G5 G24 := s6.trans S6
  have S4 : Same G4 G24 := s5.trans S5
  have S3 : Same G3 G24 := s4.trans S4
  have S2 : Same G2 G24 := s3.trans S3
  have S1 : Same G1 G24 := s2.trans S2
  have S0 : Same H1 G24 := s1.trans S1
  walk_at "r"
  refine ⟨h, hl, 10, rfl, g24, ⟨by decide, Jv.log_small (by decide) (by decide)⟩, fun y H4 z0 z1 kp4 hh4 => ?_⟩
  have ep := kp4 _ _ m24 a24
  have kp04 : Jv.Kp h H H4 := (Jv.Kp.same (s01.trans S0)).trans kp4
  have old : ∀ t o, t ≠ h → G24 t = some o → Jv.hide [h] H4 t = some o := fun t o n e => Jv.hide_at (fun m => n (List.mem_singleton.mp m)) (kp4 _ _ n e)
  have TT : Same (Jv.hide [D, h] H1) (Jv.hide [h] H4) := Same.trans Jv.hide_less (Same.trans (Jv.hide_same S0) kp4.hide)
  have b1 := old _ _ m1 (S1 _ _ a1)
  have b2 := old _ _ m2 (S2 _ _ a2)
  have b3 := old _ _ m3 (S3 _ _ a3)
  have b4 := old _ _ m4 (S4 _ _ a4)
  have b5 := old _ _ m5 (S5 _ _ a5)
  have b6 := old _ _ m6 (S6 _ _ a6)
  have b7 := old _ _ m7 (S7 _ _ a7)
  have b8 := old _ _ m8 (S8 _ _ a8)
  have b9 := old _ _ m9 (S9 _ _ a9)
  have b10 := old _ _ m10 (S10 _ _ a10)
  have b11 := old _ _ m11 (S11 _ _ a11)
  have b12 := old _ _ m12 (S12 _ _ a12)
  have b13 := old _ _ m13 (S13 _ _ a13)
  have b14 := old _ _ m14 (S14 _ _ a14)
  have b15 := old _ _ m15 (S15 _ _ a15)
  have b16 := old _ _ m16 (S16 _ _ a16)
  have b17 := old _ _ m17 (S17 _ _ a17)
  have b18 := old _ _ m18 (S18 _ _ a18)
  have b19 := old _ _ m19 (S19 _ _ a19)
  have b20 := old _ _ m20 (S20 _ _ a20)
  have b21 := old _ _ m21 (S21 _ _ a21)
  have b22 := old _ _ m22 (S22 _ _ a22)
  have b23 := old _ _ m23 (S23 _ _ a23)
  have alY := al.same TT
  have alU := al0.same TT
  have dz : ∀ t, Jv.hide [h] H4 t = some (.lst [.int 0]) → Jv.Dv K (Jv.hide [h] H4) (.ref t) (.list [.int 0]) := fun t e => .lst e (.cons (.int 0) .nil)
  have rep4 : ∀ (v : V) (d : PyData), Jv.Dv K (Jv.hide [h] H4) v d → Jv.DvAll K (Jv.hide [h] H4) [v, v, v, v] [d, d, d, d] := fun v d a => .cons a (.cons a (.cons a (.cons a .nil)))
  have rep7 : ∀ (v : V) (d : PyData), Jv.Dv K (Jv.hide [h] H4) v d → Jv.DvAll K (Jv.hide [h] H4) [v, v, v, v, v, v, v] [d, d, d, d, d, d, d] := fun v d a => .cons a (.cons a (.cons a (rep4 v d a)))
  walk_at "r"
  have alL : Jv.DvAll K (Jv.hide [h] H4) [.non, .ref t1, .int 5, .str "a", .ref t6, .ref t11, .ref t15, .ref t17, .ref t19, .ref t23]
      [.none, .list [], .int 5, .str "a", .list (rows ++ [.list (es0 ++ [.list [.int 0]])]), .list [.list [.list [.int 0], .list [.int 0], .list [.int 0], .list [.int 0]], .list [.list [.int 0], .list [.int 0], .list [.int 0], .list [.int 0]], .list [.list [.int 0], .list [.int 0], .list [.int 0], .list [.int 0]], .list [.list [.int 0], .list [.int 0], .list [.int 0], .list [.int 0]]],
       .list [.list [.list [.int 0]], .list [.list [.int 0]], .list [.list [.int 0]], .list [.list [.int 0]], .list [.list [.int 0]], .list [.list [.int 0]], .list [.list [.int 0]]], .list [.list []], .list (.none :: rows), .list [.list [.list [.int 0], .list [.int 0], .list [.int 0], .list [.int 0], .list [.int 0], .list [.int 0], .list [.int 0]]]] :=
    .cons .non (.cons (.lst b1 .nil) (.cons (.int _) (.cons (.str _) (.cons (.lst b6 (Jv.DvAll.snoc (.lst b4 (Jv.DvAll.snoc (dz _ b2) alU)) alY)) (.cons (.lst b11 (rep4 _ _ (.lst b9 (rep4 _ _ (dz _ b7)))))
      (.cons (.lst b15 (rep7 _ _ (.lst b13 (.cons (dz _ b12) .nil)))) (.cons (.lst b17 (.cons (.lst b16 .nil) .nil)) (.cons (.lst b19 (.cons .non alY)) (.cons (.lst b23 (.cons (.lst b22 (rep7 _ _ (dz _ b20))) .nil)) .nil)))))))))
  refine pickGS ep alL z0 (by simpa using z1) fun v d hd dv => ?_
  have fR : ∀ r ∈ rows, Jv.few2 r := fun r hr => by
    obtain ⟨es, rfl, le, fe⟩ := hR.hq r hr
    exact f2_of (by omega) fe
  have m00 : PyData.list es0 ∈ rows := List.mem_of_getElem? hd0
  have two : Jv.sidesD (sidesOf (Jv.linesD d)) = false ∧ Jv.few3 d := by
    simp only [List.mem_cons, List.not_mem_nil, or_false] at hd
    rcases hd with rfl | rfl | rfl | rfl | rfl | rfl | rfl | rfl | rfl | rfl
    · exact ⟨no_sides rfl, fun _ e => nomatch e⟩
    · exact ⟨bad_sides rfl fun q _ a _ _ => absurd a.1 (by decide), f3_of (by decide) fun _ m => nomatch m⟩
    · exact ⟨no_sides rfl, fun _ e => nomatch e⟩
    · exact ⟨no_sides rfl, fun _ e => nomatch e⟩
    · refine ⟨bad_sides rfl fun q' hr _ _ _ => ?_, f3_of (by rw [List.length_append, hp]; show p + 1 ≤ 100; omega) fun r hr => ?_⟩
      · obtain ⟨e1, h1, h2⟩ := hr _ (List.mem_append_left _ m00)
        obtain ⟨e3, h3, h4⟩ := hr (.list (es0 ++ [.list [.int 0]])) (List.mem_append_right _ (List.mem_singleton.mpr rfl))
        cases h1; cases h3
        rw [List.length_append] at h4
        have : [PyData.list [PyData.int 0]].length = 1 := rfl
        omega
      · rcases List.mem_append.mp hr with hr | hr
        · exact fR r hr
        · rw [List.mem_singleton.mp hr]
          refine f2_of (by rw [List.length_append, le0]; show q + 1 ≤ 100; omega) fun e he => ?_
          rcases List.mem_append.mp he with he | he
          · exact fe0 e he
          · rw [List.mem_singleton.mp he]; exact f1z
    · refine ⟨bad_sides rfl fun q' hr _ _ hq => ?_, f3_of (Nat.le_of_ble_eq_true rfl) fun r hr => ?_⟩
      · obtain ⟨e1, h1, h2⟩ := hr _ List.mem_cons_self
        cases h1
        have h3 : q' = 4 := h2.symm
        subst h3
        exact absurd hq (by decide)
      · simp only [List.mem_cons, List.not_mem_nil, or_false, or_self] at hr
        subst hr
        exact f2_rep (Nat.le_of_ble_eq_true rfl) fun e he => by simpa using he
    · refine ⟨bad_sides rfl fun q' hr a _ hq => absurd a.2 (by show ¬ (7 ≤ 6); decide), f3_of (Nat.le_of_ble_eq_true rfl) fun r hr => ?_⟩
      simp only [List.mem_cons, List.not_mem_nil, or_false, or_self] at hr
      subst hr
      exact f2_rep (Nat.le_of_ble_eq_true rfl) fun e he => by simpa using he
    · refine ⟨bad_sides rfl fun q' hr _ b _ => ?_, f3_of (Nat.le_of_ble_eq_true rfl) fun r hr => ?_⟩
      · obtain ⟨e1, h1, h2⟩ := hr _ List.mem_cons_self
        cases h1
        have h3 : q' = 0 := h2.symm
        omega
      · rw [List.mem_singleton.mp hr]
        exact f2_rep (by decide) fun _ m => nomatch m
    · refine ⟨bad_sides rfl fun q' hr _ _ _ => ?_, f3_of (by rw [List.length_cons, hp]; omega) fun r hr => ?_⟩
      · obtain ⟨e1, h1, h2⟩ := hr _ List.mem_cons_self
        cases h1
      · rcases List.mem_cons.mp hr with rfl | hr
        · exact fun _ e => nomatch e
        · exact fR r hr
    · refine ⟨bad_sides rfl fun q' hr _ b _ => ?_, f3_of (Nat.le_of_ble_eq_true rfl) fun r hr => ?_⟩
      · obtain ⟨e1, h1, h2⟩ := hr _ List.mem_cons_self
        cases h1
        have h3 : q' = 7 := h2.symm
        omega
      · rw [List.mem_singleton.mp hr]
        exact f2_rep (Nat.le_of_ble_eq_true rfl) fun e he => by simpa using he
  exact k _ _ _ dv two.1 two.2 kp04 hh4
end
end K02

namespace K02
open PySem PySem.Spec PyProof.Rows L2
/-! ### other ends -/
theorem sIx_pos {n d : Nat} {k : Int} (h : 0 ≤ k) : HT.sIx n d (some k) = min k.toNat n := by
  show (if k < 0 then _ else _) = _
  rw [if_neg (by omega)]
theorem cut_take {xs : List V} {k : Int} (h : 0 ≤ k) : cutV xs none (some k) = xs.take k.toNat := by
  unfold cutV
  rw [HT.sIx_none, sIx_pos h, List.drop_zero, Nat.sub_zero]
  rcases Nat.le_total k.toNat xs.length with h2 | h2
  · rw [Nat.min_eq_left h2]
  · rw [Nat.min_eq_right h2, List.take_of_length_le (Nat.le_refl _), List.take_of_length_le h2]
theorem cut_drop {xs : List V} {k : Int} (h : 0 ≤ k) (h2 : k.toNat ≤ xs.length) : cutV xs (some k) none = xs.drop k.toNat := by
  unfold cutV
  rw [HT.sIx_none, sIx_pos h, Nat.min_eq_left h2]
  exact List.take_of_length_le (by rw [List.length_drop]; omega)
def rgL (l : Int) : List Int := (List.range (2 * l + 1).toNat).map fun (i : Nat) => (i : Int) - l
theorem mem_rgL {l n : Int} : n ∈ rgL l ↔ -l ≤ n ∧ n ≤ l := by
  unfold rgL
  rw [List.mem_map]
  constructor
  · rintro ⟨i, hi, rfl⟩
    rw [List.mem_range] at hi
    omega
  · intro h
    exact ⟨(n + l).toNat, by rw [List.mem_range]; omega, by omega⟩
theorem rgL_nodup (l : Int) : (rgL l).Nodup := List.Pairwise.map _ (fun a b h => by intro e; exact h (by omega)) List.nodup_range
theorem neat_rg (l : Int) (ns : List Int) : neatI l ns = (rgL l).filter fun n => decide (n ∈ ns) := rfl
theorem neat_nodup {l : Int} {ns : List Int} (h : neatI l ns = ns) : ns.Nodup := by
  rw [← h, neat_rg]
  exact (rgL_nodup l).filter _
theorem not_in_erase : ∀ {ns : List Int} {i : Nat} {x : Int}, ns.Nodup → ns[i]? = some x → x ∉ ns.take i ++ ns.drop (i + 1)
  | [], _, _, _, e => by simp at e
  | a :: r, 0, x, h, e => by
    simp at e
    subst e
    simpa using (List.nodup_cons.mp h).1
  | a :: r, i + 1, x, h, e => by
    simp at e
    have h2 := List.nodup_cons.mp h
    have ih := not_in_erase h2.2 e
    have hx : x ∈ r := List.mem_of_getElem? e
    rw [List.take_succ_cons, List.cons_append, List.mem_cons]
    intro m
    rcases m with rfl | m
    · exact h2.1 hx
    · exact ih m
theorem sqT_newer {K : PySem.W.Frag} {H H' : Hp} {a : Addr} {xs : List V} (k : ∀ b o, (∀ ys, H b ≠ some (.lst ys)) → H b = some o → H' b = some o) (h : SqT K H a xs) : SqT K (Jv.newer H H') a xs := by
  rcases h with (h | ⟨o, h⟩) | h
  · exact .inl (.inl (Jv.newer_at (fun ys e => by rw [h] at e; cases e) (k _ _ (fun ys e => by rw [h] at e; cases e) h)))
  · exact .inl (.inr ⟨o, Jv.newer_at (fun ys e => by rw [h] at e; cases e) (k _ _ (fun ys e => by rw [h] at e; cases e) h)⟩)
  · exact .inr h
def sp_Lunlike_ends (K : PySem.W.Frag) : Sp := fun vs H Q _ => ∃ h hl t l, ∃ ns : List Int, vs = [.ref h, .ref t, .int l] ∧ Jv.Hand H h hl ∧ SqT K (Jv.hide [h] H) t (ns.map V.int) ∧ (0 ≤ l ∧ l ≤ 6) ∧ ns ≠ [] ∧ neatI l ns = ns ∧
  ∀ v d ms H', Jv.Dv K (Jv.newer H H') v d → Jv.seqD d = some (ms.map .int) → ms ≠ [] → ms.length ≤ 60 → (∀ n ∈ ms, -l ≤ n ∧ n ≤ l) → (neatI l ms = ns ↔ l = 0) → Jv.Kp h H H' → Jv.Hand H' h hl → Q v H'
section
variable {P : Program} {w : World} {K : PySem.W.Frag} {mg : Str → Option Value} {base : Heap}
theorem ok_Lunlike_ends (T : Tx) (O : Ok K mg T) : FnOk P w K mg base CX0 3 T.f_Lunlike_ends T.d_Lunlike_ends ["_law_hand_here", "_law_ends_here", "_law_ladder"] (sp_Lunlike_ends K) := by
  refine O.F_Lunlike_ends.ok sc_Lunlike_ends (fun vs H Q E h => by obtain ⟨_, _, _, _, _, rfl, _⟩ := h; rfl) (fun cdv A outer s H vs Q E hr h => ?_)
  obtain ⟨h, hl, t, l, ns, rfl, hh, ht, ⟨l0, l6⟩, ne, neat, k⟩ := h
  refine ⟨_, (pss_cons (ps_if (pt_cmpR op_gt (pe_callB (r := Jv.rLenK K) Jv.cr_len (by rfl) O.z_len (by decide +kernel) (pa_cons (pv 1) pa_nil)) pe_int (nomark _)) (pss_cons (ps_set (i := 3) sc_Lunlike_ends.nd rfl (Or.inl rfl) (pe_call (ok_Ldraw T O) (hr.mono (by decide)) (by rfl) O.m_Ldraw O.F_Ldraw.kp O.b_Ldraw .nil pass0 (pa_cons (pv 0) (pa_cons (pe_callB (r := Jv.rLenK K) Jv.cr_len (by rfl) O.z_len (by decide +kernel) (pa_cons (pv 1) pa_nil)) pa_nil))))
  (pss_one (ps_ret (pe_op (r := rCatA K) op_catA (pe_slice (r := rSlA K) sl_tupA (pv 1) po_none (po_some (pv 3))) (pe_slice (r := rSlA K) sl_tupA (pv 1) (po_some (pe_op op_add (pv 3) pe_int)) po_none))))) pss_nil)
  (pss_one (ps_ret (pe_ifExp (pt_cmpR op_gt (pv 2) pe_int (nomark _)) (pe_lc (own := [("_law_end", 4)]) (by rfl) sc_Lunlike_ends.nd (pi_range2 (by rfl) O.z_range (pa_cons (pe_un un_neg (pv 2)) (pa_cons (pe_op op_add (pv 2) pe_int) pa_nil))) (blkOk_by (own := [("_law_end", 4)]) (N := ["_law_hand_here", "_law_ends_here", "_law_ladder", "_law_at", "_law_end"]) (sc := defScope s_Lunlike_ends) (scope := ({ kind := .function, names := [(".0", .local), ("_law_end", .local), ("_law_ends_here", .free)], isGenerator := false, isCoroutine := false } : Scope)) (by decide +kernel)) (fun _ _ _ _ _ => (pg_name (i := 4) sc_Lunlike_ends.nd rfl (Or.inl rfl))) (fun _ _ _ _ _ => (pts_one (pt_cmpR (r := rIn K true) op_notIn_seq (pv 4) (pv 1) rfl))) (fun _ _ _ _ _ => (pv 4))) (pv 1))))), ?_⟩
  have bd : ∀ n ∈ ns, -l ≤ n ∧ n ≤ l := fun n m => by rw [← neat] at m; exact (mem_neat.mp m).1
  have few : ns.length ≤ 13 := by
    have h1 : ns.length ≤ (rgL l).length := by rw [← neat, neat_rg]; exact List.length_filter_le _ _
    have h2 : (rgL l).length = (2 * l + 1).toNat := by unfold rgL; rw [List.length_map, List.length_range]
    omega
  have nd := neat_nodup neat
  have ht0 := Jv.Same.sqT Jv.hide_le ht
  walk_at "r"
  rw [List.length_map]
  refine Jv.r_dec (fun big => ?_) (fun big => ?_)
  · have hlen : 1 < ns.length := by omega
    walk_at "r"
    rw [List.length_map]
    refine ⟨h, hl, _, rfl, hh, ⟨by omega, Jv.log_small (by omega) (by omega)⟩, fun z H1 z0 z1 kp1 hh1 => ?_⟩
    obtain ⟨i, rfl⟩ : ∃ i : Nat, z = i := ⟨z.toNat, by omega⟩
    have hi : i < ns.length := by omega
    have ht1 := Jv.Same.sqT kp1.hide ht
    walk_at "r"
    unfold tSl tPart tNoPart
    walk_at "r"
    refine ⟨_, rfl, ?_⟩
    refine ⟨t, _, rfl, Jv.Same.sqT Jv.hide_le ht1, fun hz => ?_, fun _ p1 f1 => ?_⟩
    · have h2 := hz.2
      rw [sIx_pos (by omega), List.length_map] at h2
      omega
    rw [cut_take (by omega), ← List.map_take, Int.toNat_natCast]
    obtain ⟨m1, _⟩ := hh1.ne2 f1
    have n1 := Jv.same_new (u := .tup ((ns.take i).map V.int)) f1
    have a1 : upd H1 p1 (.tup ((ns.take i).map V.int)) p1 = some (.tup ((ns.take i).map V.int)) := upd_same
    have hh2 := hh1.same n1
    have ht2 := Jv.Same.sqT (Jv.hide_same (N := [h]) n1) ht1
    generalize upd H1 p1 (.tup ((ns.take i).map V.int)) = H2 at n1 a1 hh2 ht2 ⊢
    walk_at "r"
    refine ⟨_, rfl, ?_⟩
    refine ⟨t, _, rfl, Jv.Same.sqT Jv.hide_le ht2, fun hz => ?_, fun _ p2 f2 => ?_⟩
    · have h2 := hz.1
      rw [sIx_pos (by omega), List.length_map] at h2
      omega
    have ei : ((i : Int) + 1).toNat = i + 1 := by omega
    rw [cut_drop (by omega) (by rw [List.length_map]; omega), ei, ← List.map_drop]
    obtain ⟨m2, _⟩ := hh2.ne2 f2
    have n2 := Jv.same_new (u := .tup ((ns.drop (i + 1)).map V.int)) f2
    have a2 : upd H2 p2 (.tup ((ns.drop (i + 1)).map V.int)) p2 = some (.tup ((ns.drop (i + 1)).map V.int)) := upd_same
    have hh3 := hh2.same n2
    have b1 := n2 _ _ a1
    generalize upd H2 p2 (.tup ((ns.drop (i + 1)).map V.int)) = H3 at n2 a2 hh3 b1 ⊢
    have kp3 : Jv.Kp h H H3 := kp1.trans (Jv.Kp.same (n1.trans n2))
    have hms : ns.take i ++ ns.drop (i + 1) ≠ [] := fun e => by
      have h1 := congrArg List.length e
      rw [List.length_append, List.length_take, List.length_drop] at h1
      have : ([] : List Int).length = 0 := rfl
      omega
    have hfew : (ns.take i ++ ns.drop (i + 1)).length ≤ 60 := by rw [List.length_append, List.length_take, List.length_drop]; omega
    have hbd : ∀ n ∈ ns.take i ++ ns.drop (i + 1), -l ≤ n ∧ n ≤ l := fun n m => bd n (by
      rcases List.mem_append.mp m with m | m
      · exact List.mem_of_mem_take m
      · exact List.mem_of_mem_drop m)
    have hx : ns[i]? = some ns[i] := List.getElem?_eq_getElem hi
    have hiff : neatI l (ns.take i ++ ns.drop (i + 1)) = ns ↔ l = 0 := by
      constructor
      · intro e
        have : ns[i] ∈ neatI l (ns.take i ++ ns.drop (i + 1)) := by rw [e]; exact List.getElem_mem hi
        exact absurd (mem_neat.mp this).2 (not_in_erase nd hx)
      · rintro rfl
        have h1 : ns.length ≤ (rgL 0).length := by rw [← neat, neat_rg]; exact List.length_filter_le _ _
        have h2 : (rgL 0).length = 1 := rfl
        omega
    have fin : ∀ v H', Jv.Dv K (Jv.newer H H') v (.tuple ((ns.take i ++ ns.drop (i + 1)).map .int)) → Jv.Kp h H H' → Jv.Hand H' h hl → Q v H' := fun v H' dv kp hh' => k v _ _ H' dv rfl hms hfew hbd hiff kp hh'
    have F1 : H p1 = none := kp1.free hh1 f1
    have F2 : H p2 = none := kp1.free hh1 (n1.free f2)
    refine ⟨p1, p2, _, _, rfl, rfl, Jv.sqT_at b1, Jv.sqT_at a2, Jv.small_of (by rw [List.length_map, List.length_map, List.length_take, List.length_drop]; omega), fun e => ?_, fun _ e => ?_, fun _ _ p3 f3 => ?_⟩
    · have e' : ns.take i = [] := List.map_eq_nil_iff.mp e
      refine fin _ _ ?_ kp3 hh3
      rw [e', List.nil_append]
      exact .tup (Jv.sqT_at (Jv.newer_new F2 a2)) (Jv.dv_ints _)
    · have e' : ns.drop (i + 1) = [] := List.map_eq_nil_iff.mp e
      refine fin _ _ ?_ kp3 hh3
      rw [e', List.append_nil]
      exact .tup (Jv.sqT_at (Jv.newer_new F1 b1)) (Jv.dv_ints _)
    · obtain ⟨m3, _⟩ := hh3.ne2 f3
      have n3 := Jv.same_new (u := .tup ((ns.take i).map V.int ++ (ns.drop (i + 1)).map V.int)) f3
      refine fin _ _ ?_ (kp3.trans (Jv.Kp.same n3)) (hh3.same n3)
      rw [← List.map_append]
      exact .tup (Jv.sqT_at (Jv.newer_new (kp1.free hh1 (n1.free (n2.free f3))) upd_same)) (Jv.dv_ints _)
  · have hlen : ns.length = 1 := by
      have : ns.length ≠ 0 := fun e => ne (List.eq_nil_of_length_eq_zero e)
      omega
    obtain ⟨n0, rfl⟩ := List.length_eq_one_iff.mp hlen
    walk_at "r"
    refine Jv.r_dec (fun pos => ?_) (fun pos => ?_)
    case refine_2 =>
      have hl0 : l = 0 := by omega
      walk_at "r"
      exact k _ (.tuple ([n0].map .int)) [n0] H (.tup (sqT_newer (fun _ _ _ e => e) ht0) (Jv.dv_ints _)) rfl (by simp) (by simp) bd ⟨fun _ => hl0, fun _ => neat⟩ Jv.Kp.refl hh
    walk_at "r"
    refine Jv.r_lc ?_
    walk_at "r"
    refine ⟨-l, l + 1, rfl, ⟨by omega, by omega, by omega, by omega⟩, ?_⟩
    intro D hD
    obtain ⟨mD, _⟩ := hh.ne2 hD
    have en : (l + 1 - -l).toNat = (2 * l + 1).toNat := by congr 1; omega
    refine lc_it (walk_range (lo := -l) (n := (l + 1 - -l).toNat)) (fun i H1 => Same H H1 ∧ H1 D = some (.lst ((((List.range i).map fun (i : Nat) => (i : Int) - l).filter fun n => !decide (n ∈ [n0])).map V.int))) ⟨Jv.same_new hD, upd_same⟩ (fun _ _ _ _ => trivial) ?_ ?_
    · rintro i v H1 H2 hi ⟨s1, e1⟩ ⟨rfl, rfl⟩
      walk_at "r"
      refine ⟨t, [n0].map V.int, rfl, .inr (Jv.Same.sqT s1 ht0), rfl, flat_ints [n0], ?_⟩
      rw [if_pos rfl, inV_ints]
      have ez : -l + (i : Int) = (i : Int) - l := by omega
      rw [ez]
      have more : (((List.range (i + 1)).map fun (i : Nat) => (i : Int) - l).filter fun n => !decide (n ∈ [n0])) = (((List.range i).map fun (i : Nat) => (i : Int) - l).filter fun n => !decide (n ∈ [n0])) ++ if (!decide (((i : Int) - l) ∈ [n0])) = true then [(i : Int) - l] else [] := by
        rw [List.range_succ, List.map_append, List.filter_append]
        congr 1
        show List.filter (fun n => !decide (n ∈ [n0])) [(i : Int) - l] = _
        generalize (i : Int) - l = z
        by_cases c : z = n0 <;> simp [c]
      cases c : (!decide (((i : Int) - l) ∈ [n0])) with
      | true =>
        rw [c, if_pos rfl] at more
        walk_at "r"
        refine ⟨_, e1, ?_, fun b o e => Jv.kpO (s1 b o e) (ne_of_none e hD), ?_⟩
        · rw [List.length_map]
          refine Jv.small_lt (Nat.lt_of_le_of_lt (List.length_filter_le _ _) ?_)
          rw [List.length_map, List.length_range]; omega
        · rw [upd_same, more, List.map_append]
          show some (HO.lst (_ ++ [V.int (-l + (i : Int))])) = some (HO.lst (_ ++ [V.int ((i : Int) - l)]))
          rw [ez]
      | false =>
        rw [c, if_neg Bool.false_ne_true, List.append_nil] at more
        walk_at "r"
        refine ⟨s1, ?_⟩
        rw [more]; exact e1
    · rintro H1 ⟨s1, e1⟩
      rw [en] at e1
      have e1' : H1 D = some (.lst (((rgL l).filter fun n => !decide (n ∈ [n0])).map V.int)) := e1
      have mem : ∀ n, n ∈ (rgL l).filter (fun n => !decide (n ∈ [n0])) ↔ (-l ≤ n ∧ n ≤ l) ∧ n ≠ n0 := fun n => by
        rw [List.mem_filter, mem_rgL]
        simp
      refine k (.ref D) (.list (((rgL l).filter fun n => !decide (n ∈ [n0])).map .int)) _ H1 (.lst (Jv.newer_new hD e1') (Jv.dv_ints _)) rfl ?_ ?_ (fun n m => ((mem n).mp m).1) ?_ (Jv.Kp.same s1) (hh.same s1)
      · intro e
        have h1 : (if n0 = l then -l else l) ∈ (rgL l).filter (fun n => !decide (n ∈ [n0])) := (mem _).mpr (by split <;> omega)
        rw [e] at h1
        exact nomatch h1
      · have h1 := List.length_filter_le (fun n => !decide (n ∈ [n0])) (rgL l)
        have h2 : (rgL l).length = (2 * l + 1).toNat := by unfold rgL; rw [List.length_map, List.length_range]
        omega
      · constructor
        · intro e
          have h1 : n0 ∈ neatI l ((rgL l).filter fun n => !decide (n ∈ [n0])) := by rw [e]; exact List.mem_singleton.mpr rfl
          exact absurd rfl ((mem n0).mp (mem_neat.mp h1).2).2
        · intro e; omega
end
end K02

namespace K02
open PySem PySem.Spec PyProof.Rows L2
/-! ### goals refused -/
def eL (ns : List Int) : PyData := .list (ns.map .int)
def rL (line : List (List Int)) : PyData := .list (line.map eL)
def linL (L : List (List (List Int))) : PyData := .list (L.map rL)
theorem linesEE {L : List (List (List Int))} : LinesR (linL L) L := ⟨_, rfl, pair_map fun line _ => ⟨_, rfl, pair_map fun ns _ => rfl⟩⟩
theorem mapAt {α β : Type} {f : α → β} {xs : List α} {i : Nat} {y : β} (h : (xs.map f)[i]? = some y) : ∃ x, xs[i]? = some x ∧ f x = y := by
  rw [List.getElem?_map] at h
  exact Option.map_eq_some_iff.mp h
theorem set_same {xs : List V} {j : Nat} {v : V} (h : xs[j]? = some v) : xs.set j v = xs := by
  obtain ⟨h1, h2⟩ := List.getElem?_eq_some_iff.mp h
  rw [← h2]; simp
theorem Rw.good {l : Int} {L : List (List (List Int))} {p q : Nat} (r : Rw l L p q) (hl : 0 ≤ l ∧ l ≤ 6) (hp : 1 ≤ p ∧ p ≤ 6) (hq : 1 ≤ q ∧ q ≤ 6) (pq : p * q ≤ 12) {dw dk : PyData} {k0 k1 : Bool} (hd : LinesR dw L) (hk : Jv.seqD dk = some [.bool k0, .bool k1]) : GoodG (.int l) dw dk l L k0 k1 p q :=
  ⟨rfl, hl.1, hl.2, hd, r.hp, r.hq, hp.1, hp.2, hq.1, hq.2, pq, r.ends, hk⟩
theorem rows_q {l : Int} {L : List (List (List Int))} {p q : Nat} (r : Rw l L p q) (hp : 1 ≤ p ∧ p ≤ 6) (hq : 1 ≤ q ∧ q ≤ 6) : RowsQ (L.map rL) p q :=
  ⟨by rw [List.length_map, r.hp], fun d m => by
    obtain ⟨line, hm, rfl⟩ := List.mem_map.mp m
    refine ⟨_, rfl, by rw [List.length_map, r.hq line hm], fun e he => ?_⟩
    obtain ⟨ns, hn, rfl⟩ := List.mem_map.mp he
    have := (r.ends line hm ns hn).2.1
    intro ds e
    cases e
    rw [List.length_map]; omega, hp.1, hp.2, hq.2⟩
theorem RowsQ.few {rows : List PyData} {p q : Nat} (r : RowsQ rows p q) : Jv.few3 (.list rows) := by
  have h1 := r.p6
  have h2 := r.q6
  refine f3_of (by rw [r.hp]; omega) fun d m => ?_
  obtain ⟨es, rfl, le, fe⟩ := r.hq d m
  exact f2_of (by omega) fe
theorem RowsQ.sides {rows : List PyData} {p q : Nat} (r : RowsQ rows p q) (q0 : 1 ≤ q) (pq : p * q ≤ 12) : Jv.sidesD (sidesOf (Jv.linesD (.list rows))) = true := by
  have hp := r.hp
  have p0 := r.p0
  have hall : (rows.all fun e => (Jv.seqD e).isSome) = true := List.all_eq_true.mpr fun d m => by
    obtain ⟨es, rfl, _⟩ := r.hq d m
    rfl
  have lens : rows.map (fun e => ((Jv.seqD e).getD []).length) = List.replicate p q := by
    refine List.eq_replicate_iff.mpr ⟨by rw [List.length_map, hp], fun m hm => ?_⟩
    obtain ⟨d, hd, rfl⟩ := List.mem_map.mp hm
    obtain ⟨es, rfl, le, _⟩ := r.hq d hd
    exact le
  have lin : Jv.linesD (.list rows) = some (p, q) := by
    unfold Jv.linesD
    rw [show Jv.seqD (.list rows) = some rows from rfl]; dsimp only
    rw [hall, if_pos rfl, lens]
    obtain ⟨n, rfl⟩ : ∃ n, p = n + 1 := ⟨p - 1, by omega⟩
    rw [List.replicate_succ]
    dsimp only
    rw [if_pos (List.all_eq_true.mpr fun m hm => decide_eq_true (List.eq_of_mem_replicate hm)), List.length_replicate]
  rw [lin]
  show decide _ = true
  have h1 := r.p6
  have h2 := r.q6
  refine decide_eq_true ⟨⟨by omega, by omega⟩, ⟨by omega, by omega⟩, ?_⟩
  exact_mod_cast pq
theorem RowsQ.put {rows : List PyData} {p q : Nat} (r : RowsQ rows p q) {e f : Nat} {es : List PyData} {d : PyData} (h : rows[e]? = some (.list es)) (fd : Jv.few1 d) : RowsQ (rows.set e (.list (es.set f d))) p q := by
  refine ⟨by rw [List.length_set, r.hp], fun x m => ?_, r.p0, r.p6, r.q6⟩
  rcases List.mem_or_eq_of_mem_set m with m | rfl
  · exact r.hq x m
  · obtain ⟨es', h1, h2, h3⟩ := r.hq _ (List.mem_of_getElem? h)
    cases h1
    refine ⟨_, rfl, by rw [List.length_set, h2], fun y hy => ?_⟩
    rcases List.mem_or_eq_of_mem_set hy with hy | rfl
    · exact h3 y hy
    · exact fd
theorem ends_put {l : Int} {rows : List PyData} {e f : Nat} {es : List PyData} {d : PyData} (h : e < rows.length) (h2 : f < es.length) (hd : Jv.endsD l d = false) : allEnds l (.list (rows.set e (.list (es.set f d)))) = false := by
  cases c : allEnds l (.list (rows.set e (.list (es.set f d)))) with
  | false => rfl
  | true =>
    unfold allEnds at c
    have m1 : PyData.list (es.set f d) ∈ rows.set e (.list (es.set f d)) := List.mem_iff_getElem?.mpr ⟨e, List.getElem?_set_self h⟩
    have m2 : d ∈ es.set f d := List.mem_iff_getElem?.mpr ⟨f, List.getElem?_set_self h2⟩
    have := List.all_eq_true.mp c d (List.mem_flatMap.mpr ⟨_, m1, m2⟩)
    rw [hd] at this; cases this
def ft1 (dk : PyData) : Option Str := if Jv.knowsD dk = false then some "knows" else none
def ft2 (l : Int) (dw dk : PyData) : Option Str := if allEnds l dw = false then some "wanted" else ft1 dk
def ft3 (l : Int) (dw dk : PyData) : Option Str := if Jv.sidesD (sidesOf (Jv.linesD dw)) = false then some "sides" else ft2 l dw dk
theorem ft4 {l : Int} (hl : 0 ≤ l ∧ l ≤ 6) (dw dk : PyData) : faultG (.int l) dw dk = ft3 l dw dk := by
  unfold faultG ft3 ft2 ft1
  have : Jv.wholeD (.int l) (.int 0) (.int 6) = true := by
    show (decide (0 ≤ l) && decide (l ≤ 6)) = true
    rw [decide_eq_true hl.1, decide_eq_true hl.2]; rfl
  dsimp only
  rw [this, if_neg (by decide)]
theorem ft5 {d dw dk : PyData} (h : Jv.wholeD d (.int 0) (.int 6) = false) : faultG d dw dk = some ("ladder" : Str) := by
  unfold faultG
  cases d with
  | int l => dsimp only; rw [h, if_pos rfl]
  | _ => rfl
def dueV : Option Str → V
  | none => .non
  | some f => .str f
def sp_Lrefused (K : PySem.W.Frag) : Sp := fun vs H Q _ => ∃ h hl sA x kv l L d k0 k1, ∃ p q : Nat, vs = [.ref h, .ref sA, .int l, x, kv] ∧ Jv.Hand H h hl ∧ H sA = some (.tup [.int p, .int q]) ∧ Jv.Dv K (Jv.hide [h] H) x d ∧ LinesR d L ∧ Rw l L p q ∧ (0 ≤ l ∧ l ≤ 6) ∧ (1 ≤ p ∧ p ≤ 6) ∧ (1 ≤ q ∧ q ≤ 6) ∧ p * q ≤ 12 ∧
  Jv.Dv K (Jv.hide [h] H) kv (.tuple [.bool k0, .bool k1]) ∧ ∀ H', Jv.Kp h H H' → Jv.Hand H' h hl → Q (.bl true) H'
theorem _root_.Jv.Hand.lst {H : Hp} {p l : Addr} (h : Jv.Hand H p l) : ∀ b ∈ [p], ∃ ys, H b = some (.lst ys) := fun b m => by
  rw [List.mem_singleton.mp m]
  obtain ⟨_, _, _, _, hA⟩ := h
  exact ⟨_, hA.hp⟩
theorem _root_.Jv.Hand.neTup {H : Hp} {p l b : Addr} {xs : List V} (h : Jv.Hand H p l) (e : H b = some (.tup xs)) : b ≠ p := fun z => by
  obtain ⟨_, _, _, _, hA⟩ := h
  rw [z, hA.hp] at e; cases e
theorem r_make0 {C : Addr} {sp : Sp} {dvs : List V} {E : XK} {t : TA} {σ : L2.St} {H : Hp} {Q : VK} (h : t σ H fun vs H1 => ∀ x dx, H1 x = none → H1 dx = none → dx ≠ x →
  sp (.ref x :: (vs ++ dvs)) (upd (upd H1 dx (.own x)) x (.ins C dx [])) (fun v H2 => v = .non ∧ Q (.ref x) H2) E) : tMake C sp dvs E t σ H Q := h
theorem gen_make {C : Addr} {sp : Sp} {dvs : List V} {E : XK} {t : TA} {σ : L2.St} {H : Hp} {Q : VK} (h : ∀ Q' : VK, (∀ v H, Q v H → Q' v H) → tMake C sp dvs E t σ H Q') : tMake C sp dvs E t σ H Q := h Q fun _ _ q => q
theorem fault_word {dl dw dk : PyData} {f : Str} (h : faultG dl dw dk = some f) : SeqAt.shaped (.list [.str "bad", .str f]) = true := by
  have four : f = "ladder" ∨ f = "sides" ∨ f = "wanted" ∨ f = "knows" := by
    unfold faultG at h
    split at h
    · split at h
      · cases h; exact .inl rfl
      · split at h
        · cases h; exact .inr (.inl rfl)
        · split at h
          · cases h; exact .inr (.inr (.inl rfl))
          · split at h
            · cases h; exact .inr (.inr (.inr rfl))
            · cases h
    · cases h; exact .inl rfl
  rcases four with rfl | rfl | rfl | rfl <;> decide +kernel
theorem eqv_self {d : PyData} (h : SeqAt.shaped d = true) : PyData.eqv d d = true := SeqAt.eqv_refl d (SeqAt.canLay_of_shaped h)
section
variable {P : Program} {w : World} {K : PySem.W.Frag} {mg : Str → Option Value} {base : Heap}
theorem ok_Lrefused (T : Tx) (O : Ok K mg T) : FnOk P w K mg base CX0 7 T.f_Lrefused T.d_Lrefused ["_law_hand_here", "_law_sides", "_law_ladder", "_law_lines", "_law_known"] (sp_Lrefused K) := by
  refine O.F_Lrefused.ok sc_Lrefused (fun vs H Q E h => by obtain ⟨_, _, _, _, _, _, _, _, _, _, _, _, rfl, _⟩ := h; rfl) (fun cdv A outer s H vs Q E hr h => ?_)
  obtain ⟨h, hl, sA, x, kv, l, L, d, k0, k1, p, q, rfl, hh, es, hx, hL, hR, hlb, hp, hq, pq, hk, k⟩ := h
  refine ⟨_, (pss_cons (ps_set (i := 5) sc_Lrefused.nd rfl (Or.inl rfl) (pe_call (ok_Ldraw T O) (hr.mono (by decide)) (by rfl) O.m_Ldraw O.F_Ldraw.kp O.b_Ldraw .nil pass0 (pa_cons (pv 0) (pa_cons pe_int pa_nil))))
  (pss_cons (ps_setLc (i := 6) (own := [("_law_line", 11)]) (by rfl) sc_Lrefused.nd rfl rfl (sw_true rfl rfl rfl (by decide +kernel)) (Jv.piOr (show PI _ _ _ (iList K _) from pi_list (pv 3)) (show PI _ _ _ (iTup K _) from pi_tup (pv 3))) (blkOk_by (own := [("_law_line", 11)]) (N := ["_law_hand_here", "_law_sides", "_law_ladder", "_law_lines", "_law_known", "_law_faults", "_law_kept", "_law_due", "_law_truths_here", "_law_top", "_law_made_here", "_law_line", "_law_ends_here"]) (sc := defScope s_Lrefused) (scope := ({ kind := .function, names := [(".0", .local), ("_law_line", .local)], isGenerator := false, isCoroutine := false } : Scope)) (by decide +kernel)) (fun _ _ _ _ _ => (pg_name (i := 11) sc_Lrefused.nd rfl (Or.inl rfl))) (fun _ _ _ _ _ => pts_nil) (fun _ _ _ _ _ => (pe_lc (own := [("_law_ends_here", 12)]) (by rfl) sc_Lrefused.nd (Jv.piOr (show PI _ _ _ (iList K _) from pi_list (pv 11)) (show PI _ _ _ (iTup K _) from pi_tup (pv 11))) (blkOk_by (own := [("_law_ends_here", 12)]) (N := ["_law_hand_here", "_law_sides", "_law_ladder", "_law_lines", "_law_known", "_law_faults", "_law_kept", "_law_due", "_law_truths_here", "_law_top", "_law_made_here", "_law_line", "_law_ends_here"]) (sc := ({ kind := .function, names := [(".0", .local), ("_law_line", .local)], isGenerator := false, isCoroutine := false } : Scope)) (scope := ({ kind := .function, names := [(".0", .local), ("_law_ends_here", .local), ("list", .globalImplicit)], isGenerator := false, isCoroutine := false } : Scope)) (by decide +kernel)) (fun _ _ _ _ _ => (pg_name (i := 12) sc_Lrefused.nd rfl (Or.inl rfl))) (fun _ _ _ _ _ => pts_nil) (fun _ _ _ _ _ => (pe_callTy (r := Jv.rListOf K) call_list_of (by rfl) O.z_list (by decide +kernel) (pa_cons (pv 12) pa_nil))))))
  (pss_cons (ps_set (i := 7) sc_Lrefused.nd rfl (Or.inl rfl) pe_non)
  (pss_cons (ps_set (i := 8) sc_Lrefused.nd rfl (Or.inl rfl) (pe_callTy (r := Jv.rListOf K) call_list_of (by rfl) O.z_list (by decide +kernel) (pa_cons (pv 4) pa_nil)))
  (C8.pss_cut (ps_if (pt_cmpR op_eq (pe_op op_mod (pe_op op_fdivW (pv 5) pe_int) pe_int) pe_int (nomark _)) (pss_cons (ps_set (i := 8) sc_Lrefused.nd rfl (Or.inl rfl) (pe_call (ok_Lbad_knows T O) (hr.mono (by decide)) (by rfl) O.m_Lbad_knows O.F_Lbad_knows.kp O.b_Lbad_knows .nil pass0 (pa_cons (pv 0) pa_nil)))
  (pss_one (ps_set (i := 7) sc_Lrefused.nd rfl (Or.inl rfl) pe_str))) pss_nil)
  (C8.pss_cut (ps_if (pt_cmpR op_eq (pe_op op_mod (pe_op op_fdivW (pv 5) pe_int) pe_int) pe_int (nomark _)) (pss_cons (ps_asg (pe_call (ok_Lbad_ends T O) (hr.mono (by decide)) (by rfl) O.m_Lbad_ends O.F_Lbad_ends.kp O.b_Lbad_ends .nil pass0 (pa_cons (pv 0) (pa_cons (pv 2) pa_nil))) (pg_sub (pe_ix (r := rIx K) ix_seq (pv 6) (pe_call (ok_Ldraw T O) (hr.mono (by decide)) (by rfl) O.m_Ldraw O.F_Ldraw.kp O.b_Ldraw .nil pass0 (pa_cons (pv 0) (pa_cons (pe_ix (r := rIx K) ix_seq (pv 1) pe_int (fun _ _ => rfl)) pa_nil))) (fun _ _ => rfl)) (pe_call (ok_Ldraw T O) (hr.mono (by decide)) (by rfl) O.m_Ldraw O.F_Ldraw.kp O.b_Ldraw .nil pass0 (pa_cons (pv 0) (pa_cons (pe_ix (r := rIx K) ix_seq (pv 1) pe_int (fun _ _ => rfl)) pa_nil))) set_list))
  (pss_one (ps_set (i := 7) sc_Lrefused.nd rfl (Or.inl rfl) pe_str))) pss_nil)
  (C8.pss_cut (ps_if (pt_cmpR op_eq (pe_op op_mod (pe_op op_fdivW (pv 5) pe_int) pe_int) pe_int (nomark _)) (pss_cons (ps_set (i := 6) sc_Lrefused.nd rfl (Or.inl rfl) (pe_call (ok_Lbad_lines T O) (hr.mono (by decide)) (by rfl) O.m_Lbad_lines O.F_Lbad_lines.kp O.b_Lbad_lines .nil pass0 (pa_cons (pv 0) (pa_cons (pv 6) pa_nil))))
  (pss_one (ps_set (i := 7) sc_Lrefused.nd rfl (Or.inl rfl) pe_str))) pss_nil)
  (pss_cons (ps_set (i := 9) sc_Lrefused.nd rfl (Or.inl rfl) (pv 2))
  (C8.pss_cut (ps_if (pt_cmpR op_eq (pe_op op_mod (pv 5) pe_int) pe_int (nomark _)) (pss_cons (ps_set (i := 9) sc_Lrefused.nd rfl (Or.inl rfl) (pe_call (ok_Lbad_ladder T O) (hr.mono (by decide)) (by rfl) O.m_Lbad_ladder O.F_Lbad_ladder.kp O.b_Lbad_ladder .nil pass0 (pa_cons (pv 0) pa_nil)))
  (pss_one (ps_set (i := 7) sc_Lrefused.nd rfl (Or.inl rfl) pe_str))) pss_nil)
  (pss_cons (ps_set (i := 10) sc_Lrefused.nd rfl (Or.inl rfl) (pe_call (ok_Lmade T O) (hr.mono (by decide)) (by rfl) O.m_Lmade O.F_Lmade.kp O.b_Lmade .nil pass0 (pa_cons (pv 9) (pa_cons (pv 6) (pa_cons (pv 8) pa_nil)))))
  (pss_cons (ps_if (pt_cmpR op_isN (pv 7) pe_non (nomark _)) (pss_one (ps_ret (pe_and (pe_callB (r := rIsi K) call_isi (by rfl) O.z_isinstance (by decide +kernel) (pa_cons (pv 10) (pa_cons (pe_glob (v := .ref _) (by rfl) O.m_Goals rfl) pa_nil))) (pe_one (pe_cmpR (Jv.op_eqO (ok_Goalsu_equ T O) O.h_Goalsu_equ O.i_Goals_nt (hr.mono (by decide)) O.b_Goalsu_equ pass0) (pv 10) (pe_make (E := E0) O.k_Goals (ok_Goalsu_initu T O) (hr.mono (by decide)) (by rfl) O.m_Goals O.b_Goalsu_initu .nil passL (pa_cons (pv 2) (pa_cons (pv 3) (pa_cons (pv 4) pa_nil)))) (nomark _)))))) pss_nil)
  (pss_one (ps_ret (pe_cmpR (r := rEqD K) (op_eqD hr.units) (pv 10) (pe_lst (pa_cons pe_str (pa_cons (pv 7) pa_nil))) (nomark _))))))))))))))), ?_⟩
  have hLp := hR.hp
  have nsh := hh.neTup es
  walk_at "r"
  refine ⟨h, hl, 16, rfl, hh, ⟨by decide, Jv.log_small (by decide) (by decide)⟩, fun F H1 F0 F1 kp1 hh1 => ?_⟩
  have hx1 := hx.same kp1.hide
  obtain ⟨rows, er, pr⟩ := id hL
  have lpr := Paired.length pr
  obtain ⟨ws, skW, alW⟩ := (hx1.same Jv.hide_le).sk er
  have lws := alW.len
  walk_at "r"
  refine Jv.lcNew2 (K := K) (j := 11) (i := 3) rfl skW (L.map rL) (by rw [List.length_map]; omega) (by omega) (fun i v e D1 H6 hi hv he s6 hD1 ⟨_, hD6⟩ PP hP => ?_) (fun D A0 H2 s2 ft0 fr0 => ?_)
  · obtain ⟨r, c1, c2⟩ := alW.at hv
    obtain ⟨line, hline, hLR⟩ := pairAt pr c1
    rw [List.getElem?_map, hline] at he
    obtain rfl := Option.some.inj he
    obtain ⟨es', ers, prl⟩ := hLR
    obtain ⟨us, skU, alU⟩ := (c2.same s6).sk ers
    have lus := alU.len
    have lpl := Paired.length prl
    have lq := hR.hq line (List.mem_of_getElem? hline)
    refine Jv.lcNew2 (K := K) (j := 12) (i := 11) rfl skU (line.map eL) (by rw [List.length_map]; omega) (by omega) (fun i2 u e2' D2 H7 hi2 hu he2 s7 hD2 ⟨_, hD7⟩ PP2 hP2 => ?_) (fun D2 B H7 s7 ft fr => ?_)
    · obtain ⟨dn, g1, g2⟩ := alU.at hu
      obtain ⟨ns, g3, hER⟩ := pairAt prl g1
      rw [List.getElem?_map, g3] at he2
      obtain rfl := Option.some.inj he2
      obtain ⟨zs, skZ, alZ⟩ := (g2.same s7).sk hER
      obtain rfl := Jv.dv_intsV alZ
      walk_at "r"
      obtain ⟨Z, rfl, hZ⟩ := skZ
      exact Jv.r_listOf hZ fun M hM => hP2 _ [M] _ (Jv.same_new hM) (.lst upd_same (Jv.FtAll.ints ns) (fun m => nomatch m)) fun a m => by rw [List.mem_singleton.mp m]; exact hM
    · exact hP _ B _ s7 ft fr
  have hh2 := hh1.same s2
  have hk2 : Jv.Dv K H2 kv (.tuple [.bool k0, .bool k1]) := ((hk.same kp1.hide).same Jv.hide_le).same s2
  walk_at "r"
  obtain ⟨kA, rfl, sqK⟩ : ∃ kA, kv = .ref kA ∧ SqT K H2 kA [.bl k0, .bl k1] := by
    cases hk2 with
    | tup e q =>
      cases q with
      | cons c1 c2 =>
        cases c1
        cases c2 with
        | cons c1 c2 =>
          cases c1
          cases c2
          exact ⟨_, rfl, e⟩
  refine Jv.r_listOf (.inr sqK) fun M hM => ?_
  have n3 := Jv.same_new (u := .lst [.bl k0, .bl k1]) hM
  have eM : upd H2 M (.lst [.bl k0, .bl k1]) M = some (.lst [.bl k0, .bl k1]) := upd_same
  have hh3 := hh2.same n3
  obtain ⟨nMh, _⟩ := hh2.ne2 hM
  generalize upd H2 M (.lst [.bl k0, .bl k1]) = H3 at n3 eM hh3 ⊢
  walk_at "r"
  -- truths
  refine ⟨fun σ H' => ∃ dueO v dk, σ = [some (.ref h), some (.ref sA), some (.int l), some x, some (.ref kA), some (.int F), some (.ref D), some (dueV dueO), some v, none, none, none, none] ∧ Jv.Dv K (Jv.newer H2 H') v dk ∧ ft1 dk = dueO ∧ (dueO = none → Jv.seqD dk = some [.bool k0, .bool k1]) ∧ Jv.Kp h H2 H' ∧ Jv.Hand H' h hl, ?_, ?_⟩
  · walk_at "r"
    have kp23 : Jv.Kp h H2 H3 := Jv.Kp.same n3
    refine Jv.r_decI (fun _ => ?_) (fun _ => ?_)
    · walk_at "r"
      refine ⟨h, hl, rfl, hh3, fun v dk H4 dv bad kp4 hh4 => ?_⟩
      walk_at "r"
      refine ⟨some "knows", v, dk, rfl, dv.same (Jv.newer_sub fun b ys e => ⟨ys, n3 _ _ e⟩), ?_, (fun e => nomatch e), kp23.trans kp4, hh4⟩
      unfold ft1
      rw [bad, if_pos rfl]
    · walk_at "r"
      exact ⟨none, .ref M, .list [.bool k0, .bool k1], rfl, .lst (Jv.newer_new hM eM) (.cons (.bl _) (.cons (.bl _) .nil)), rfl, fun _ => rfl, kp23, hh3⟩
  rintro σ H4 ⟨due1, v, dk, rfl, dv1, ed1, nd1, kp4, hh4⟩
  have nA0 : ∀ a ∈ A0, a ≠ h ∧ a ≠ hl := fun a m => hh1.ne2 (fr0 a m)
  have ft4' : Jv.Ft K H4 (.ref D) (.list (L.map rL)) A0 := ft0.keep fun a m o e => kp4 a o (nA0 a m).1 e
  have hN2 : ∀ b ∈ [h], ∃ ys, H2 b = some (.lst ys) := hh2.lst
  have rq := rows_q hR hp hq
  have okE : allEnds l (.list (L.map rL)) = true := (hR.good hlb hp hq pq (linesEE (L := L)) (dk := .list [.bool true, .bool true]) (k0 := true) (k1 := true) rfl).allEnds
  walk_at "r"
  -- ends
  refine ⟨fun σ H' => ∃ dueO rows, σ = [some (.ref h), some (.ref sA), some (.int l), some x, some (.ref kA), some (.int F), some (.ref D), some (dueV dueO), some v, none, none, none, none] ∧ Jv.Dv K (Jv.hide [h] H') v dk ∧ Jv.Dv K (Jv.hide [h] H') (.ref D) (.list rows) ∧ RowsQ rows p q ∧ ft2 l (.list rows) dk = dueO ∧ (dueO = none → Jv.seqD dk = some [.bool k0, .bool k1] ∧ rows = L.map rL) ∧ Jv.Kp h H1 H' ∧ Jv.Hand H' h hl, ?_, ?_⟩
  · walk_at "r"
    have kp14 : Jv.Kp h H1 H4 := (Jv.Kp.same s2).trans kp4
    refine Jv.r_decI (fun _ => ?_) (fun _ => ?_)
    case refine_2 =>
      walk_at "r"
      refine ⟨due1, _, rfl, dv1.same (Jv.newer_hide hN2), (ft4'.keep (H' := Jv.hide [h] H4) fun a m o e => Jv.hide_at (fun m2 => (nA0 a m).1 (List.mem_singleton.mp m2)) e).dv, rq, ?_, fun e => ⟨nd1 e, rfl⟩, kp14, hh4⟩
      unfold ft2
      rw [okE, if_neg (by decide)]; exact ed1
    walk_at "r"
    refine ⟨h, hl, l, rfl, hh4, hlb, fun v6 d6 H5 dv6 bad f6 kp5 hh5 => ?_⟩
    have es5 := (kp1.trans (kp14.trans kp5)) _ _ nsh es
    walk_at "r"
    refine Jv.Sk.ix (xs := [.int p, .int q]) ⟨sA, rfl, .inr (Jv.sqT_at es5)⟩ (v := .int p) rfl ?_
    walk_at "r"
    refine ⟨h, hl, _, rfl, hh5, ⟨by omega, Jv.log_small (by omega) (by omega)⟩, fun e0 H6 a0 a1 kp6 hh6 => ?_⟩
    obtain ⟨e, rfl⟩ : ∃ e : Nat, e0 = e := ⟨e0.toNat, by omega⟩
    have kp46 := kp5.trans kp6
    have ft6 : Jv.Ft K H6 (.ref D) (.list (L.map rL)) A0 := ft4'.keep fun a m o e => kp46 a o (nA0 a m).1 e
    cases ft6 with
    | lst eD fa nD =>
    rename_i xs A1
    have lxs := fa.len
    rw [List.length_map, hLp] at lxs
    have xe : xs[e]? = some xs[e] := List.getElem?_eq_getElem (by omega)
    obtain ⟨dR, B, hdR, ftR, subB, chgD⟩ := fa.chg xe
    obtain ⟨line, hline, rfl⟩ := mapAt hdR
    have lq := hR.hq line (List.mem_of_getElem? hline)
    obtain ⟨R, us, B', eRx, eR, fb, nR, rfl⟩ : ∃ R us B', xs[e] = .ref R ∧ H6 R = some (.lst us) ∧ Jv.FtAll K H6 us (line.map eL) B' ∧ R ∉ B' ∧ B = R :: B' := by
      generalize xs[e] = v at ftR
      have ftR' : Jv.Ft K H6 v (.list (line.map eL)) B := ftR
      cases ftR' with
      | lst a b c => exact ⟨_, _, _, rfl, a, b, c, rfl⟩
    have xe2 := xe
    rw [eRx] at xe2
    have lus := fb.len
    rw [List.length_map, lq] at lus
    have mR : R ∈ D :: A1 := List.mem_cons_of_mem _ (subB R List.mem_cons_self)
    have nRh := nA0 R mR
    have nRD : R ≠ D := fun z => nD (z ▸ subB R List.mem_cons_self)
    refine Jv.Sk.ix (xs := xs) ⟨D, rfl, .inl (Jv.sqL_at eD)⟩ (Jv.at_i (by omega) (by rw [Int.toNat_natCast]; exact xe2)) ?_
    walk_at "r"
    have es6 := kp6 _ _ nsh es5
    refine Jv.Sk.ix (xs := [.int p, .int q]) ⟨sA, rfl, .inr (Jv.sqT_at es6)⟩ (v := .int q) rfl ?_
    walk_at "r"
    refine ⟨h, hl, _, rfl, hh6, ⟨by omega, Jv.log_small (by omega) (by omega)⟩, fun f0 H7 b0 b1 kp7 hh7 => ?_⟩
    obtain ⟨f, rfl⟩ : ∃ e : Nat, f0 = e := ⟨f0.toNat, by omega⟩
    walk_at "r"
    refine ⟨R, us, f, f, rfl, rfl, kp7 _ _ nRh.1 eR, Jv.ixN_of (by omega), ?_⟩
    have uw : us[f]? = some us[f] := List.getElem?_eq_getElem (by omega)
    obtain ⟨dN, C, hdN, ftN, subC, chgR⟩ := fb.chg uw
    have kp67 := kp6.trans kp7
    -- the value that is put
    have lists4 : ∀ b ∈ [R, h], ∃ ys, H4 b = some (.lst ys) := fun b m => by
      rcases List.mem_cons.mp m with z | m
      · rw [z]; exact ft4'.held R mR
      · exact hh4.lst b m
    have lists2 : ∀ b ∈ [R, h], ∃ ys, H2 b = some (.lst ys) := fun b m => by
      rcases List.mem_cons.mp m with z | m
      · rw [z]; exact ft0.held R mR
      · exact hh2.lst b m
    have put : ∀ u dd, Jv.Dv K (Jv.hide [R, h] H7) u dd → Jv.Dv K (Jv.hide [h] (upd H7 R (.lst (us.set f v6)))) u dd := fun u dd dv => by
      rw [← Jv.hide_upd (o := .lst (us.set f v6))] at dv
      exact dv.same Jv.hide_less
    have hid : ∀ {G G' : Hp}, Jv.Kp h G G' → Same (Jv.hide [R, h] G) (Jv.hide [R, h] G') := fun {G G'} k b o e => by
      obtain ⟨n, e2⟩ := Jv.hide_some e
      exact Jv.hide_at n (k b o (fun z => n (by rw [z]; simp)) e2)
    have dv6' := put _ _ ((dv6.same (Jv.newer_hide lists4)).same (hid kp67))
    have dvk' := put _ _ ((dv1.same (Jv.newer_hide lists2)).same (hid (kp5.trans kp67)))
    have oldk : ∀ a ∈ D :: A1, a ≠ R → ∀ o, H6 a = some o → Jv.hide [h] (upd H7 R (.lst (us.set f v6))) a = some o := fun a m na o e => Jv.hide_at (fun m2 => (nA0 a m).1 (List.mem_singleton.mp m2)) (by rw [upd_ne na]; exact kp7 _ _ (nA0 a m).1 e)
    have row : Jv.DvAll K (Jv.hide [h] (upd H7 R (.lst (us.set f v6)))) (us.set f v6) ((line.map eL).set f d6) := chgR v6 d6 _ (fun a m _ o e => oldk a (List.mem_cons_of_mem _ (subB a (List.mem_cons_of_mem _ m))) (fun z => nR (z ▸ m)) o e) dv6'
    have all : Jv.DvAll K (Jv.hide [h] (upd H7 R (.lst (us.set f v6)))) xs ((L.map rL).set e (.list ((line.map eL).set f d6))) := by
      have h2 := chgD (.ref R) (.list ((line.map eL).set f d6)) (Jv.hide [h] (upd H7 R (.lst (us.set f v6)))) (fun a m nb o e => oldk a (List.mem_cons_of_mem _ m) (fun z => nb (by rw [z]; exact List.mem_cons_self)) o e) (.lst (Jv.hide_at (fun m => nRh.1 (List.mem_singleton.mp m)) upd_same) row)
      rw [set_same xe2] at h2
      exact h2
    have hrow : (L.map rL)[e]? = some (.list (line.map eL)) := hdR
    walk_at "r"
    refine ⟨some "wanted", _, rfl, dvk', .lst (oldk D List.mem_cons_self (fun z => nRD z.symm) _ eD) all, rq.put hrow f6, ?_, (fun e => nomatch e), fun c u nc hc => ?_, hh7.upd nRh.1 nRh.2⟩
    · unfold ft2
      rw [ends_put (by rw [List.length_map, hLp]; omega) (by rw [List.length_map, lq]; omega) bad, if_pos rfl]
    · rw [upd_ne (ne_of_none hc (fr0 R mR))]
      exact (kp14.trans (kp5.trans kp67)) c u nc hc
  rintro σ H5 ⟨due2, rows2, rfl, dv2, dw2, rq2, ed2, nd2, kp5, hh5⟩
  have okS := rq2.sides hq.1 pq
  walk_at "r"
  -- lines
  refine ⟨fun σ H' => ∃ dueO kvv dw, σ = [some (.ref h), some (.ref sA), some (.int l), some x, some (.ref kA), some (.int F), some kvv, some (dueV dueO), some v, none, none, none, none] ∧ Jv.Dv K (Jv.hide [h] H') v dk ∧ Jv.Dv K (Jv.hide [h] H') kvv dw ∧ Jv.few3 dw ∧ ft3 l dw dk = dueO ∧ (dueO = none → Jv.seqD dk = some [.bool k0, .bool k1] ∧ dw = linL L) ∧ Jv.Kp h H1 H' ∧ Jv.Hand H' h hl, ?_, ?_⟩
  · walk_at "r"
    refine Jv.r_decI (fun _ => ?_) (fun _ => ?_)
    · walk_at "r"
      refine ⟨h, hl, _, rows2, p, q, rfl, hh5, dw2, rq2, fun v6 d6 H6 dv6 bad f6 kp6 hh6 => ?_⟩
      walk_at "r"
      refine ⟨some "sides", v6, d6, rfl, dv2.same kp6.hide, dv6, f6, ?_, (fun e => nomatch e), kp5.trans kp6, hh6⟩
      unfold ft3
      rw [bad, if_pos rfl]
    · walk_at "r"
      refine ⟨due2, .ref D, .list rows2, rfl, dv2, dw2, rq2.few, ?_, fun e => ⟨(nd2 e).1, by rw [(nd2 e).2]; rfl⟩, kp5, hh5⟩
      unfold ft3
      rw [okS, if_neg (by decide)]; exact ed2
  rintro σ H6 ⟨due3, kvv, dw, rfl, dv3, dw3, few3, ed3, nd3, kp6, hh6⟩
  walk_at "r"
  -- the ladder
  refine ⟨fun σ H' => ∃ dueO tv dt, σ = [some (.ref h), some (.ref sA), some (.int l), some x, some (.ref kA), some (.int F), some kvv, some (dueV dueO), some v, some tv, none, none, none] ∧ Jv.Dv K (Jv.hide [h] H') v dk ∧ Jv.Dv K (Jv.hide [h] H') kvv dw ∧ Jv.Dv K (Jv.hide [h] H') tv dt ∧ faultG dt dw dk = dueO ∧ (dueO = none → Jv.seqD dk = some [.bool k0, .bool k1] ∧ dw = linL L ∧ dt = .int l) ∧ Jv.Kp h H1 H' ∧ Jv.Hand H' h hl, ?_, ?_⟩
  · walk_at "r"
    refine Jv.r_decI (fun _ => ?_) (fun _ => ?_)
    · walk_at "r"
      refine ⟨h, hl, rfl, hh6, fun tv dt H7 dvt bad kp7 hh7 => ?_⟩
      walk_at "r"
      exact ⟨some "ladder", tv, dt, rfl, dv3.same kp7.hide, dw3.same kp7.hide, dvt, ft5 bad, (fun e => nomatch e), kp6.trans kp7, hh7⟩
    · walk_at "r"
      exact ⟨due3, .int l, .int l, rfl, dv3, dw3, .int l, by rw [ft4 hlb]; exact ed3, fun e => ⟨(nd3 e).1, (nd3 e).2, rfl⟩, kp6, hh6⟩
  rintro σ H7 ⟨due4, tv, dt, rfl, dv4, dw4, dt4, ed4, nd4, kp7, hh7⟩
  have kp07 := kp1.trans kp7
  walk_at "r"
  refine ⟨tv, dt, kvv, dw, v, dk, rfl, dt4.same Jv.hide_le, dw4.same Jv.hide_le, few3, dv4.same Jv.hide_le, ?_⟩
  cases due4 with
  | some f =>
    refine .inl ⟨f, ed4, fun r H8 s8 hn er => ?_⟩
    walk_at "r"
    intro t ht
    have n9 := Jv.same_new (u := .lst [.str "bad", .str f]) ht
    walk_at "r"
    have sh := fault_word ed4
    have q1 : Jv.Dv K (upd H8 t (.lst [.str "bad", .str f])) (.ref r) (.list [.str "bad", .str f]) := .lst (n9 _ _ er) (.cons (.str _) (.cons (.str _) .nil))
    have q2 : Jv.Dv K (upd H8 t (.lst [.str "bad", .str f])) (.ref t) (.list [.str "bad", .str f]) := .lst upd_same (.cons (.str _) (.cons (.str _) .nil))
    refine ⟨_, _, q1.dp, q2.dp, sh, sh, ?_⟩
    rw [eqv_self sh]
    exact k _ (kp07.trans (Jv.Kp.same (s8.trans n9))) (hh7.same (s8.trans n9))
  | none =>
    obtain ⟨c1, rfl, rfl⟩ := nd4 rfl
    refine .inr ⟨l, L, k0, k1, p, q, hR.good hlb hp hq pq linesEE c1, fun r H8 s8 hn ga => ?_⟩
    walk_at "r"
    obtain ⟨dx, _, _, _, hca, _⟩ := id ga
    refine ⟨_, _, _, _, true, rfl, .own T.C_Goals, .base (.ins hca O.o_Goals O.i_Goals_ca O.i_Goals_cn O.i_Goals_ct O.i_Goals_cm), by simp [PySem.W.kitOne], ?_⟩
    walk_at "r"
    have kp08 := kp07.trans (Jv.Kp.same s8)
    have hx8 := (hx.same kp08.hide).same Jv.hide_le
    have hk8 := (hk.same kp08.hide).same Jv.hide_le
    refine gen_make fun Q1 hQ1 => r_make0 ?_
    walk_at "r"
    refine mk_good (.int l) hx8 hk8 (hR.good hlb hp hq pq hL rfl) fun r2 H9 s9 _ ga2 => hQ1 _ _ ?_
    have ga' := ga.same s9
    obtain ⟨_, _, _, _, h1, _⟩ := id ga'
    obtain ⟨_, _, _, _, h2, _⟩ := id ga2
    rw [want_eq] at ga' ga2
    refine ⟨r, _, _, r2, rfl, rfl, h1, .inl ⟨_, _, h2⟩, r, r2, l, _, k0, k1, p, q, rfl, ga', .inl ⟨l, _, k0, k1, p, q, ga2, _, rfl, ?_⟩⟩
    rw [decide_eq_true ⟨rfl, rfl, rfl, rfl⟩]
    walk_at "r"
    exact k _ (kp08.trans (Jv.Kp.same s9)) ((hh7.same s8).same s9)
end
end K02

namespace K02
open PySem PySem.Spec PyProof.Rows L2
/-! ### the text of lines; what stands while the law goes on -/
theorem seq_two {d : PyData} {ds : List PyData} (h : Jv.seqD d = some ds) : d = .list ds ∨ d = .tuple ds := by
  cases d with
  | list xs => cases h; exact .inl rfl
  | tuple xs => cases h; exact .inr rfl
  | _ => cases h
theorem canAll_of : ∀ {ds : List PyData}, (∀ d ∈ ds, d.canLay0 = true) → PyData.canLayAll0 ds = true
  | [], _ => by simp [PyData.canLayAll0]
  | a :: r, h => by simp [PyData.canLayAll0, h a List.mem_cons_self, canAll_of fun d m => h d (List.mem_cons_of_mem _ m)]
theorem showAll_of : ∀ {ds : List PyData}, (∀ d ∈ ds, d.showable = true) → PyData.showableAll ds = true
  | [], _ => by simp [PyData.showableAll]
  | a :: r, h => by simp [PyData.showableAll, h a List.mem_cons_self, showAll_of fun d m => h d (List.mem_cons_of_mem _ m)]
theorem shortAll_of : ∀ {ds : List PyData}, (∀ d ∈ ds, d.intsShort 13 = true) → PyData.intsShortAll 13 ds = true
  | [], _ => by simp [PyData.intsShortAll]
  | a :: r, h => by simp [PyData.intsShortAll, h a List.mem_cons_self, shortAll_of fun d m => h d (List.mem_cons_of_mem _ m)]
theorem depAll_of {n : Nat} : ∀ {ds : List PyData}, (∀ d ∈ ds, d.depth ≤ n) → PyData.depthAll ds ≤ n
  | [], _ => by simp [PyData.depthAll]
  | a :: r, h => by
    have h1 := h a List.mem_cons_self
    have h2 := depAll_of fun d m => h d (List.mem_cons_of_mem _ m)
    simp [PyData.depthAll]; omega
theorem weightAll_of {n : Nat} : ∀ {ds : List PyData}, (∀ d ∈ ds, d.weight ≤ n) → PyData.weightAll ds ≤ (n + 1) * ds.length
  | [], _ => by simp [PyData.weightAll]
  | a :: r, h => by
    have h1 := h a List.mem_cons_self
    have h2 := weightAll_of fun d m => h d (List.mem_cons_of_mem _ m)
    simp only [PyData.weightAll, List.length_cons, Nat.mul_add]
    omega
/-- what the text of data asks of it -/
structure Lays (n m : Nat) (d : PyData) : Prop where
  can : d.canLay0 = true
  show_ : d.showable = true
  short : d.intsShort 13 = true
  dep : d.depth ≤ n
  wt : d.weight ≤ m
theorem Lays.seq {n m k : Nat} {d : PyData} {ds : List PyData} (h : Jv.seqD d = some ds) (hl : ds.length ≤ k) (hs : ∀ e ∈ ds, Lays n m e) : Lays (n + 1) ((m + 1) * k) d := by
  have c1 := canAll_of fun e he => (hs e he).can
  have c2 := showAll_of fun e he => (hs e he).show_
  have c3 := shortAll_of fun e he => (hs e he).short
  have c4 := depAll_of fun e he => (hs e he).dep
  have c5 := weightAll_of fun e he => (hs e he).wt
  have c6 : (m + 1) * ds.length ≤ (m + 1) * k := Nat.mul_le_mul_left _ hl
  rcases seq_two h with rfl | rfl
  · exact ⟨by simp only [PyData.canLay0]; exact c1, by simp only [PyData.showable]; exact c2, by simp only [PyData.intsShort]; exact c3, by simp only [PyData.depth]; omega, by simp only [PyData.weight]; omega⟩
  · exact ⟨by simp only [PyData.canLay0]; exact c1, by simp only [PyData.showable]; exact c2, by simp only [PyData.intsShort]; exact c3, by simp only [PyData.depth]; omega, by simp only [PyData.weight]; omega⟩
theorem lays_int {i : Int} (h : -6 ≤ i ∧ i ≤ 6) : Lays 0 8 (.int i) := by
  have hs : i.natAbs < 8 := by omega
  have h2 : i.natAbs.log2 ≤ 3 := by
    rcases Nat.eq_zero_or_pos i.natAbs with z | z
    · rw [z]; decide
    · have := (Nat.log2_lt (by omega)).mpr (show i.natAbs < 2 ^ 3 from hs)
      omega
  refine ⟨by simp [PyData.canLay0], by simp only [PyData.showable]; exact decide_eq_true (by omega), ?_, by simp [PyData.depth], ?_⟩
  · have := PyData.intsShortAll_ints [i] (fun n m => by rw [List.mem_singleton.mp m]; omega)
    simpa [PyData.intsShortAll] using this
  · simp only [PyData.weight]
    split <;> omega
theorem lines_lay {l : Int} {L : List (List (List Int))} {p q : Nat} {d : PyData} (hL : LinesR d L) (hR : Rw l L p q) (l6 : l ≤ 6) (p6 : p ≤ 6) (q6 : q ≤ 6) : d.canLay0 = true ∧ d.depth ≤ 60 ∧ d.showable = true ∧ d.shown.length ≤ sizeLine := by
  obtain ⟨rows, er, pr⟩ := hL
  have lpr := Paired.length pr
  have hp := hR.hp
  have all : Lays 3 ((((8 + 1) * 60 + 1) * 6 + 1) * 6) d := by
    refine Lays.seq er (by omega) fun r hr => ?_
    obtain ⟨line, hm, es, ee, prl⟩ := memL pr hr
    have lpl := Paired.length prl
    refine Lays.seq ee (by have := hR.hq line hm; omega) fun e he => ?_
    obtain ⟨ns, hn, hE⟩ := memL prl he
    obtain ⟨_, h60, bd⟩ := hR.ends line hm ns hn
    refine Lays.seq (show Jv.seqD e = some (ns.map .int) from hE) (by rw [List.length_map]; exact h60) fun x hx => ?_
    obtain ⟨i, hi, rfl⟩ := List.mem_map.mp hx
    have := bd i hi
    exact lays_int ⟨by omega, by omega⟩
  have hlay : PyData.layable0 d = true := by
    show (PyData.canLay0 d && decide (PyData.depth d ≤ 64) && decide (PyData.weight d ≤ 2 ^ 20)) = true
    have h1 := all.dep
    have h2 := all.wt
    have h3 : (2 : Nat) ^ 20 = 1048576 := by decide
    rw [all.can, decide_eq_true (by omega), decide_eq_true (by omega)]; rfl
  exact ⟨all.can, by have := all.dep; omega, all.show_, PyData.shown_fits_of_layable0 (by decide) (by decide) hlay all.short⟩
section
variable {K : PySem.W.Frag} {H H' : Hp} {N : List Addr}
theorem dvW_hide (hN : ∀ b ∈ N, ∃ ys, H b = some (.lst ys)) {v : V} {L : List (List (List Int))} (h : Jv.Dv K H v (wantT L)) : Jv.Dv K (Jv.hide N H) v (wantT L) := by
  cases h with
  | tup e q =>
    refine .tup (Jv.sqT_hide hN e) (q.imp fun v d m dv => ?_)
    obtain ⟨line, _, rfl⟩ := List.mem_map.mp m
    cases dv with
    | tup e q =>
      refine .tup (Jv.sqT_hide hN e) (q.imp fun v d m dv => ?_)
      obtain ⟨ns, _, rfl⟩ := List.mem_map.mp m
      cases dv with
      | tup e q =>
        refine .tup (Jv.sqT_hide hN e) (q.imp fun v d m dv => ?_)
        obtain ⟨n, _, rfl⟩ := List.mem_map.mp m
        cases dv
        exact .int _
theorem dvF_hide (hN : ∀ b ∈ N, ∃ ys, H b = some (.lst ys)) {v : V} {d1 d2 : PyData} (f1 : Jv.seqD d1 = none) (f2 : Jv.seqD d2 = none) (h : Jv.Dv K H v (.tuple [d1, d2])) : Jv.Dv K (Jv.hide N H) v (.tuple [d1, d2]) := by
  cases h with
  | tup e q =>
    refine .tup (Jv.sqT_hide hN e) (q.imp fun v d m dv => ?_)
    have fl : Jv.seqD d = none := by
      simp only [List.mem_cons, List.not_mem_nil, or_false] at m
      rcases m with rfl | rfl <;> assumption
    cases dv with
    | non => exact .non
    | bl b => exact .bl b
    | int i => exact .int i
    | str x => exact .str x
    | lst _ _ => cases fl
    | tup _ _ => cases fl
theorem GAt.hide {C a : Addr} {l : Int} {L : List (List (List Int))} {k0 k1 : Bool} {p q : Int} (hN : ∀ b ∈ N, ∃ ys, H b = some (.lst ys)) (h : GAt K H C a l (wantT L) k0 k1 p q) : GAt K (Jv.hide N H) C a l (wantT L) k0 k1 p q := by
  obtain ⟨dx, w, t, s, h1, h2, h3, h4⟩ := h
  exact ⟨dx, w, t, s, Jv.hide_at (fun m => by obtain ⟨ys, e⟩ := hN a m; rw [h1] at e; cases e) h1, dvW_hide hN h2, dvF_hide hN rfl rfl h3, dvF_hide hN rfl rfl h4⟩
/-- what stands while the law goes on -/
structure Sit (K : PySem.W.Frag) (C : Addr) (h hl sA kA g : Addr) (x : V) (wA : Addr) (l : Int) (d : PyData) (L : List (List (List Int))) (k0 k1 : Bool) (p q : Nat) (H : Hp) : Prop where
  hh : Jv.Hand H h hl
  es : H sA = some (.tup [.int p, .int q])
  ek : H kA = some (.tup [.bl k0, .bl k1])
  hx : Jv.Dv K (Jv.hide [h] H) x d
  ga : GAt K (Jv.hide [h] H) C g l (wantT (neatL l L)) k0 k1 p q
  dw : Jv.Dv K (Jv.hide [h] H) (.ref wA) (wantT (neatL l L))
/-- what is so once and for all -/
structure Fix (l : Int) (d : PyData) (L : List (List (List Int))) (p q : Nat) : Prop where
  hL : LinesR d L
  hR : Rw l L p q
  hl : 0 ≤ l ∧ l ≤ 6
  hp : 1 ≤ p ∧ p ≤ 6
  hq : 1 ≤ q ∧ q ≤ 6
  pq : p * q ≤ 12
section
variable {C h hl sA kA g wA : Addr} {x : V} {l : Int} {d : PyData} {L : List (List (List Int))} {k0 k1 : Bool} {p q : Nat}
theorem Fix.wd (f : Fix l d L p q) : Wd l (neatL l L) p q := f.hR.neat f.hl.1 f.hl.2 f.hp f.hq f.pq
theorem Fix.good (f : Fix l d L p q) {dk : PyData} {k0 k1 : Bool} (hk : Jv.seqD dk = some [.bool k0, .bool k1]) : GoodG (.int l) d dk l L k0 k1 p q := f.hR.good f.hl f.hp f.hq f.pq f.hL hk
theorem Sit.kp (s : Sit K C h hl sA kA g x wA l d L k0 k1 p q H) (k : Jv.Kp h H H') (hh : Jv.Hand H' h hl) : Sit K C h hl sA kA g x wA l d L k0 k1 p q H' :=
  ⟨hh, k _ _ (s.hh.neTup s.es) s.es, k _ _ (s.hh.neTup s.ek) s.ek, s.hx.same k.hide, s.ga.same k.hide, s.dw.same k.hide⟩
theorem Sit.same (s : Sit K C h hl sA kA g x wA l d L k0 k1 p q H) (k : Same H H') : Sit K C h hl sA kA g x wA l d L k0 k1 p q H' := s.kp (Jv.Kp.same k) (s.hh.same k)
theorem Sit.x0 (s : Sit K C h hl sA kA g x wA l d L k0 k1 p q H) : Jv.Dv K H x d := s.hx.same Jv.hide_le
theorem Sit.g0 (s : Sit K C h hl sA kA g x wA l d L k0 k1 p q H) : GAt K H C g l (wantT (neatL l L)) k0 k1 p q := s.ga.same Jv.hide_le
theorem Sit.w0 (s : Sit K C h hl sA kA g x wA l d L k0 k1 p q H) : Jv.Dv K H (.ref wA) (wantT (neatL l L)) := s.dw.same Jv.hide_le
theorem Sit.k0' (s : Sit K C h hl sA kA g x wA l d L k0 k1 p q H) : Jv.Dv K H (.ref kA) (.tuple [.bool k0, .bool k1]) := .tup (Jv.sqT_at s.ek) (.cons (.bl _) (.cons (.bl _) .nil))
theorem Sit.kh (s : Sit K C h hl sA kA g x wA l d L k0 k1 p q H) : Jv.Dv K (Jv.hide [h] H) (.ref kA) (.tuple [.bool k0, .bool k1]) := dvF_hide s.hh.lst rfl rfl s.k0'
end
end
theorem ne_self {K : PySem.W.Frag} {H : Hp} {Q : VK} {x y : V} {d : PyData} (hx : Jv.Dv K H x d) (hy : Jv.Dv K H y d) (h : SeqAt.shaped d = true) (q : Q (.bl false) H) : rNeD K x y H Q :=
  ⟨d, d, hx.dp, hy.dp, h, h, by rw [eqv_self h]; exact q⟩
theorem shaped_word : SeqAt.shaped (.list [.str "bad"]) = true := by decide +kernel
end K02

namespace K02
open PySem PySem.Spec PyProof.Rows L2
/-! ### the law -/
def sp_law (K : PySem.W.Frag) : Sp := fun vs H Q _ => ∃ (a : Addr) (ns : List Int), vs = [.ref a] ∧ SqL K H a (ns.map V.int) ∧ ns.length ≤ 63 ∧ ∀ H', Q (.bl true) H'
/-- the ends that a couple has to be told -/
def dueD (M : List (List (List Int))) (p q e f : Int) : PyData := if (0 ≤ e ∧ e < p) ∧ (0 ≤ f ∧ f < q) then .tuple ((cell M e f).map .int) else .list [.str "bad"]
theorem shaped_due (M : List (List (List Int))) (p q e f : Int) : SeqAt.shaped (dueD M p q e f) = true := by
  unfold dueD
  split
  · exact Jv.shapedT _
  · exact shaped_word
theorem couple_no {p q e f : Int} (h : ¬ ((0 ≤ e ∧ e < p) ∧ (0 ≤ f ∧ f < q))) {d : PyData} (hd : Jv.seqD d = some [.int e, .int f]) : coupleD p q d = false := by
  unfold coupleD
  rw [hd]
  show (Jv.wholeD _ _ _ && Jv.wholeD _ _ _) = false
  rw [Bool.and_eq_false_iff]
  by_cases c : 0 ≤ e ∧ e < p
  · exact .inr (whole_out fun z => h ⟨c, by omega⟩)
  · exact .inl (whole_out fun z => c (by omega))
theorem r_notT {K : PySem.W.Frag} {ta : TE} {σ : L2.St} {H : Hp} {Q : VK} (h : ta σ H fun x H1 => ∃ k, TruV K x H1 k ∧ Q (.bl (!k)) H1) : tNotT K ta σ H Q := h
theorem gen_makeN {C : Addr} {n m : Nat} {sp : Sp} {gV : List V → List V → List V} {E : XK} {t tk : TA} {σ : L2.St} {H : Hp} {Q : VK} (h : ∀ Q' : VK, (∀ v H, Q v H → Q' v H) → tMakeN C n m sp gV E t tk σ H Q') : tMakeN C n m sp gV E t tk σ H Q := h Q fun _ _ q => q
theorem r_makeN {C : Addr} {n m : Nat} {sp : Sp} {gV : List V → List V → List V} {E : XK} {t tk : TA} {σ : L2.St} {H : Hp} {Q : VK} (h : t σ H fun vs H1 => tk σ H1 fun zs H2 => vs.length = n ∧ zs.length = m ∧
  ∀ x dx, H2 x = none → H2 dx = none → dx ≠ x → sp (gV (.ref x :: vs) zs) (upd (upd H2 dx (.own x)) x (.ins C dx [])) (fun v H3 => v = .non ∧ Q (.ref x) H3) E) : tMakeN C n m sp gV E t tk σ H Q := h
theorem setAll {K : PySem.W.Frag} {H : Hp} {v : V} {d : PyData} (h : Jv.Dv K H v d) : ∀ {vs : List V} {ds : List PyData} (j : Nat), Jv.DvAll K H vs ds → Jv.DvAll K H (vs.set j v) (ds.set j d)
  | _, _, _, .nil => .nil
  | _, _, 0, .cons _ b => .cons h b
  | _, _, j + 1, .cons a b => .cons a (setAll h j b)
theorem nodupAt {α : Type} {l : List α} (nd : l.Nodup) {i j : Nat} {x : α} (hi : l[i]? = some x) (hj : l[j]? = some x) : i = j := by
  obtain ⟨h1, e1⟩ := List.getElem?_eq_some_iff.mp hi
  obtain ⟨h2, e2⟩ := List.getElem?_eq_some_iff.mp hj
  have pw := List.pairwise_iff_getElem.mp nd
  rcases Nat.lt_trichotomy i j with lt | e | lt
  · exact absurd (e1.trans e2.symm) (pw i j h1 h2 lt)
  · exact e
  · exact absurd (e2.trans e1.symm) (pw j i h2 h1 lt)
theorem pair_set {α β : Type} {F : α → β → Prop} {x : α} {y : β} : ∀ {xs : List α} {ys : List β} {i : Nat}, Paired F xs ys → F x y → Paired F (xs.set i x) (ys.set i y)
  | _, _, _, .nil, _ => .nil
  | _, _, 0, .cons _ b, h => .cons h b
  | _, _, i + 1, .cons a b, h => .cons a (pair_set b h)
theorem set_id {α : Type} {l : List α} {i : Nat} {x y : α} (h : l[i]? = some x) : l.set i y = l ↔ y = x := by
  obtain ⟨h1, h2⟩ := List.getElem?_eq_some_iff.mp h
  constructor
  · intro e
    have := List.getElem?_set_self (a := y) h1
    rw [e, h] at this
    exact (Option.some.inj this).symm
  · rintro rfl
    rw [← h2]; simp
theorem set_iff {M : List (List (List Int))} {line : List (List Int)} {ns ms : List Int} {e f : Nat} (h1 : M[e]? = some line) (h2 : line[f]? = some ns) : M.set e (line.set f ms) = M ↔ ms = ns := by
  rw [set_id h1, set_id h2]
def tI (ns : List Int) : PyData := .tuple (ns.map .int)
def rowB (line : List (List Int)) : PyData := .list (line.map tI)
def St (K : PySem.W.Frag) (C sc h hl sA kA g : Addr) (x : V) (wA : Addr) (l : Int) (d : PyData) (L : List (List (List Int))) (k0 k1 : Bool) (p q : Nat) (i : Int) : L2.St → Hp → Prop := fun σ H => ∃ y7 y10 y11 y12 y13 y14 y15 y16 y17 y18 y19 y20,
  σ = [some (.ref sc), some (.ref h), some (.int i), some (.ref sA), some (.int l), some x, some (.ref kA), y7, some (.ref g), some (.ref wA), y10, y11, y12, y13, y14, y15, y16, y17, y18, y19, y20] ∧ Sit K C h hl sA kA g x wA l d L k0 k1 p q H
section
variable {P : Program} {w : World} {K : PySem.W.Frag} {mg : Str → Option Value} {base : Heap}
theorem ok_law (T : Tx) (O : Ok K mg T) : Jv.FnG P w K mg base CX0 9 T.f_law T.d_law ["_law_script"] (sp_law K) := by
  refine Jv.fun_okG O.F_law sc_law (fun vs H Q E h => by obtain ⟨_, _, rfl, _⟩ := h; rfl) (fun cdv A outer s H vs Q E gd hr h => ?_)
  obtain ⟨sc, ns, rfl, hS, few, k⟩ := h
  refine ⟨_, (pss_cons (ps_set (i := 1) sc_law.nd rfl (Or.inl rfl) (pe_call (ok_Lhand T O) (hr.mono (by decide)) (by rfl) O.m_Lhand O.F_Lhand.kp O.b_Lhand .nil pass0 (pa_cons (pv 0) pa_nil)))
  (pss_cons (ps_for PassesOwn.never rfl (pi_range1 (by rfl) O.z_range (pa_cons pe_int pa_nil)) (pg_name (i := 2) sc_law.nd rfl (Or.inl rfl)) (pss_cons (ps_set (i := 3) sc_law.nd rfl (Or.inl rfl) (pe_call (ok_Lwide_sides T O) (hr.mono (by decide)) (by rfl) O.m_Lwide_sides O.F_Lwide_sides.kp O.b_Lwide_sides .nil pass0 (pa_cons (pv 1) pa_nil)))
  (pss_cons (ps_set (i := 4) sc_law.nd rfl (Or.inl rfl) (pe_call (ok_Ldraw T O) (hr.mono (by decide)) (by rfl) O.m_Ldraw O.F_Ldraw.kp O.b_Ldraw .nil pass0 (pa_cons (pv 1) (pa_cons pe_int pa_nil))))
  (pss_cons (ps_set (i := 5) sc_law.nd rfl (Or.inl rfl) (pe_call (ok_Lraw_wanted T O) (hr.mono (by decide)) (by rfl) O.m_Lraw_wanted O.F_Lraw_wanted.kp O.b_Lraw_wanted .nil pass0 (pa_cons (pv 1) (pa_cons (pv 3) (pa_cons (pv 4) pa_nil)))))
  (pss_cons (ps_set (i := 6) sc_law.nd rfl (Or.inl rfl) (pe_call (ok_Ltruths T O) (hr.mono (by decide)) (by rfl) O.m_Ltruths O.F_Ltruths.kp O.b_Ltruths .nil pass0 (pa_cons (pv 1) pa_nil)))
  (pss_cons (ps_set (i := 7) sc_law.nd rfl (Or.inl rfl) (pe_callB (r := Jv.rRepr K) (Jv.call_repr gd hr.units) (by rfl) O.z_repr (by decide +kernel) (pa_cons (pv 5) pa_nil)))
  (pss_cons (ps_set (i := 8) sc_law.nd rfl (Or.inl rfl) (pe_make (E := E0) O.k_Goals (ok_Goalsu_initu T O) (hr.mono (by decide)) (by rfl) O.m_Goals O.b_Goalsu_initu .nil passL (pa_cons (pv 4) (pa_cons (pv 5) (pa_cons (pe_callTy (r := Jv.rListOf K) call_list_of (by rfl) O.z_list (by decide +kernel) (pa_cons (pv 6) pa_nil)) pa_nil)))))
  (pss_cons (ps_set (i := 9) sc_law.nd rfl (Or.inl rfl) (pe_call (ok_Lneat_wanted T O) (hr.mono (by decide)) (by rfl) O.m_Lneat_wanted O.F_Lneat_wanted.kp O.b_Lneat_wanted .nil pass0 (pa_cons (pv 5) (pa_cons (pv 4) pa_nil))))
  (C8.pss_cut (ps_if (PW.pt (pw_or (pt_not (pt_val (pe_call (ok_Lgoal_facts T O) (hr.mono (by decide)) (by rfl) O.m_Lgoal_facts O.F_Lgoal_facts.kp O.b_Lgoal_facts .nil pass0 (pa_cons (pv 8) (pa_cons (pv 4) (pa_cons (pv 9) (pa_cons (pv 6) pa_nil))))))) (pw_or1 (pt_cmpR op_ne (pe_callB (r := Jv.rRepr K) (Jv.call_repr gd hr.units) (by rfl) O.z_repr (by decide +kernel) (pa_cons (pv 5) pa_nil)) (pv 7) (nomark _))))) (pss_one (ps_ret pe_bl)) pss_nil)
  (pss_cons (ps_for PassesOwn.never rfl (pi_range2 (by rfl) O.z_range (pa_cons (pe_un un_neg pe_int) (pa_cons (pe_op op_add (pe_ix (r := rIx K) ix_seq (pv 3) pe_int (fun _ _ => rfl)) pe_int) pa_nil))) (pg_name (i := 10) sc_law.nd rfl (Or.inl rfl)) (pss_one (ps_for PassesOwn.never rfl (pi_range2 (by rfl) O.z_range (pa_cons (pe_un un_neg pe_int) (pa_cons (pe_op op_add (pe_ix (r := rIx K) ix_seq (pv 3) pe_int (fun _ _ => rfl)) pe_int) pa_nil))) (pg_name (i := 11) sc_law.nd rfl (Or.inl rfl)) (pss_cons (ps_set (i := 12) sc_law.nd rfl (Or.inl rfl) (pe_lst (pa_cons pe_str pa_nil)))
  (C8.pss_cut (ps_if (PW.pt (pw_and (pt_chain op_le op_lt pe_int (pv 10) (pe_ix (r := rIx K) ix_seq (pv 3) pe_int (fun _ _ => rfl))) (pw_and1 (pt_chain op_le op_lt pe_int (pv 11) (pe_ix (r := rIx K) ix_seq (pv 3) pe_int (fun _ _ => rfl)))))) (pss_one (ps_set (i := 12) sc_law.nd rfl (Or.inl rfl) (pe_ix (r := rIx K) ix_seq (pe_ix (r := rIx K) ix_seq (pv 9) (pv 10) (fun _ _ => rfl)) (pv 11) (fun _ _ => rfl)))) pss_nil)
  (pss_one (ps_if (PW.pt (pw_or (pt_cmpR (r := rNeD K) (op_neD hr.units) (pe_call (ok_Lends_told T O) (hr.mono (by decide)) (by rfl) O.m_Lends_told O.F_Lends_told.kp O.b_Lends_told .nil pass0 (pa_cons (pv 8) (pa_cons (pe_tup (pa_cons (pv 10) (pa_cons (pv 11) pa_nil))) pa_nil))) (pv 12) (nomark _)) (pw_or1 (pt_cmpR (r := rNeD K) (op_neD hr.units) (pe_call (ok_Lends_told T O) (hr.mono (by decide)) (by rfl) O.m_Lends_told O.F_Lends_told.kp O.b_Lends_told .nil pass0 (pa_cons (pv 8) (pa_cons (pe_lst (pa_cons (pv 10) (pa_cons (pv 11) pa_nil))) pa_nil))) (pv 12) (nomark _))))) (pss_one (ps_ret pe_bl)) pss_nil)))))))
  (C8.pss_cut (ps_if (PW.pt (pw_or (pt_cmpR (r := rNeD K) (op_neD hr.units) (pe_call (ok_Lends_told T O) (hr.mono (by decide)) (by rfl) O.m_Lends_told O.F_Lends_told.kp O.b_Lends_told .nil pass0 (pa_cons (pv 8) (pa_cons pe_non pa_nil))) (pe_lst (pa_cons pe_str pa_nil)) (nomark _)) (pw_or1 (pt_cmpR (r := rNeD K) (op_neD hr.units) (pe_call (ok_Lends_told T O) (hr.mono (by decide)) (by rfl) O.m_Lends_told O.F_Lends_told.kp O.b_Lends_told .nil pass0 (pa_cons (pv 8) (pa_cons (pe_tup (pa_cons pe_bl (pa_cons pe_int pa_nil))) pa_nil))) (pe_lst (pa_cons pe_str pa_nil)) (nomark _))))) (pss_one (ps_ret pe_bl)) pss_nil)
  (pss_cons (ps_setLc (i := 13) (own := [("_law_line", 19)]) (by rfl) sc_law.nd rfl rfl (sw_true rfl rfl rfl (by decide +kernel)) (Jv.piOr (show PI _ _ _ (iList K _) from pi_list (pv 5)) (show PI _ _ _ (iTup K _) from pi_tup (pv 5))) (blkOk_by (own := [("_law_line", 19)]) (N := ["_law_script", "_law_hand_here", "_law_turn", "_law_sides", "_law_ladder", "_law_lines", "_law_known", "_law_told", "_law_goals", "_law_wanted", "_law_east", "_law_west", "_law_due", "_law_soft", "_law_other", "_law_plain", "_law_couple", "_law_bent", "_law_unlike", "_law_line", "_law_ends_here"]) (sc := defScope s_law) (scope := ({ kind := .function, names := [(".0", .local), ("_law_line", .local)], isGenerator := false, isCoroutine := false } : Scope)) (by decide +kernel)) (fun _ _ _ _ _ => (pg_name (i := 19) sc_law.nd rfl (Or.inl rfl))) (fun _ _ _ _ _ => pts_nil) (fun _ _ _ _ _ => (pe_lc (own := [("_law_ends_here", 20)]) (by rfl) sc_law.nd (Jv.piOr (show PI _ _ _ (iList K _) from pi_list (pv 19)) (show PI _ _ _ (iTup K _) from pi_tup (pv 19))) (blkOk_by (own := [("_law_ends_here", 20)]) (N := ["_law_script", "_law_hand_here", "_law_turn", "_law_sides", "_law_ladder", "_law_lines", "_law_known", "_law_told", "_law_goals", "_law_wanted", "_law_east", "_law_west", "_law_due", "_law_soft", "_law_other", "_law_plain", "_law_couple", "_law_bent", "_law_unlike", "_law_line", "_law_ends_here"]) (sc := ({ kind := .function, names := [(".0", .local), ("_law_line", .local)], isGenerator := false, isCoroutine := false } : Scope)) (scope := ({ kind := .function, names := [(".0", .local), ("_law_ends_here", .local), ("list", .globalImplicit)], isGenerator := false, isCoroutine := false } : Scope)) (by decide +kernel)) (fun _ _ _ _ _ => (pg_name (i := 20) sc_law.nd rfl (Or.inl rfl))) (fun _ _ _ _ _ => pts_nil) (fun _ _ _ _ _ => (pe_callTy (r := Jv.rListOf K) call_list_of (by rfl) O.z_list (by decide +kernel) (pa_cons (pv 20) pa_nil))))))
  (pss_cons (ps_set (i := 14) sc_law.nd rfl (Or.inl rfl) (pe_make (E := E0) O.k_Goals (ok_Goalsu_initu T O) (hr.mono (by decide)) (by rfl) O.m_Goals O.b_Goalsu_initu .nil passL (pa_cons (pv 4) (pa_cons (pv 13) (pa_cons (pv 6) pa_nil)))))
  (pss_cons (ps_expr (show PE _ _ (tBM K _ _ _ _) from pe_bm PySem.F.plainAttrs_list PySem.F.slot_list_append PySem.F.type_list_append mt_append (pe_ix (r := rIx K) ix_seq (pe_ix (r := rIx K) ix_seq (pv 13) pe_int (fun _ _ => rfl)) pe_int (fun _ _ => rfl)) (pa_cons pe_int pa_nil)))
  (pss_cons (ps_expr (show PE _ _ (tBM K _ _ _ _) from pe_bm PySem.F.plainAttrs_list PySem.F.slot_list_append PySem.F.type_list_append mt_append (pv 13) (pa_cons (pe_ix (r := rIx K) ix_seq (pv 13) pe_int (fun _ _ => rfl)) pa_nil)))
  (C8.pss_cut (ps_if (PW.pt (pw_or (pt_cmpR (Jv.op_neO (ok_Goalsu_equ T O) O.h_Goalsu_equ O.i_Goals_ne O.i_Goals_cm O.i_Goals_nt (hr.mono (by decide)) O.b_Goalsu_equ pass0) (pv 14) (pv 8) (nomark _)) (pw_or (pt_not (pt_cmpR (Jv.op_eqO (ok_Goalsu_equ T O) O.h_Goalsu_equ O.i_Goals_nt (hr.mono (by decide)) O.b_Goalsu_equ pass0) (pv 14) (pv 8) (nomark _))) (pw_or1 (pt_not (pt_val (pe_call (ok_Lgoal_facts T O) (hr.mono (by decide)) (by rfl) O.m_Lgoal_facts O.F_Lgoal_facts.kp O.b_Lgoal_facts .nil pass0 (pa_cons (pv 14) (pa_cons (pv 4) (pa_cons (pv 9) (pa_cons (pv 6) pa_nil))))))))))) (pss_one (ps_ret pe_bl)) pss_nil)
  (pss_cons (ps_set (i := 15) sc_law.nd rfl (Or.inl rfl) (pe_make (E := E0) O.k_Goals (ok_Goalsu_initu T O) (hr.mono (by decide)) (by rfl) O.m_Goals O.b1_Goalsu_initu.2 O.b1_Goalsu_initu.1 passL (pa_cons (pv 4) (pa_cons (pv 5) pa_nil))))
  (C8.pss_cut (ps_if (PW.pt (pw_or (pt_cmpR (r := rNeD K) (op_neD hr.units) (show PE _ _ (tFld K _ _) from pe_fld (pv 15) rfl) (pe_tup (pa_cons pe_bl (pa_cons pe_bl pa_nil))) (nomark _)) (pw_or1 (pt_cmpR op_ne (pe_cmpR (Jv.op_eqO (ok_Goalsu_equ T O) O.h_Goalsu_equ O.i_Goals_nt (hr.mono (by decide)) O.b_Goalsu_equ pass0) (pv 15) (pv 8) (nomark _)) (pe_cmpR (r := rEqD K) (op_eqD hr.units) (pv 6) (pe_tup (pa_cons pe_bl (pa_cons pe_bl pa_nil))) (nomark _)) (nomark _))))) (pss_one (ps_ret pe_bl)) pss_nil)
  (C8.pss_cut (ps_if (PW.pt (pw_and (pt_cmpR op_lt (pv 4) pe_int (nomark _)) (pw_and1 (pt_cmpR (Jv.op_eqO (ok_Goalsu_equ T O) O.h_Goalsu_equ O.i_Goals_nt (hr.mono (by decide)) O.b_Goalsu_equ pass0) (pe_make (E := E0) O.k_Goals (ok_Goalsu_initu T O) (hr.mono (by decide)) (by rfl) O.m_Goals O.b_Goalsu_initu .nil passL (pa_cons (pe_op op_add (pv 4) pe_int) (pa_cons (pv 5) (pa_cons (pv 6) pa_nil)))) (pv 8) (nomark _))))) (pss_one (ps_ret pe_bl)) pss_nil)
  (pss_cons (ps_set (i := 16) sc_law.nd rfl (Or.inl rfl) (pe_tup (pa_cons (pe_call (ok_Ldraw T O) (hr.mono (by decide)) (by rfl) O.m_Ldraw O.F_Ldraw.kp O.b_Ldraw .nil pass0 (pa_cons (pv 1) (pa_cons (pe_ix (r := rIx K) ix_seq (pv 3) pe_int (fun _ _ => rfl)) pa_nil))) (pa_cons (pe_call (ok_Ldraw T O) (hr.mono (by decide)) (by rfl) O.m_Ldraw O.F_Ldraw.kp O.b_Ldraw .nil pass0 (pa_cons (pv 1) (pa_cons (pe_ix (r := rIx K) ix_seq (pv 3) pe_int (fun _ _ => rfl)) pa_nil))) pa_nil))))
  (pss_cons (ps_setLc (i := 17) (own := [("_law_line", 19)]) (by rfl) sc_law.nd rfl rfl (sw_true rfl rfl rfl (by decide +kernel)) (Jv.piOr (show PI _ _ _ (iList K _) from pi_list (pv 9)) (show PI _ _ _ (iTup K _) from pi_tup (pv 9))) (blkOk_by (own := [("_law_line", 19)]) (N := ["_law_script", "_law_hand_here", "_law_turn", "_law_sides", "_law_ladder", "_law_lines", "_law_known", "_law_told", "_law_goals", "_law_wanted", "_law_east", "_law_west", "_law_due", "_law_soft", "_law_other", "_law_plain", "_law_couple", "_law_bent", "_law_unlike", "_law_line", "_law_ends_here"]) (sc := defScope s_law) (scope := ({ kind := .function, names := [(".0", .local), ("_law_line", .local), ("list", .globalImplicit)], isGenerator := false, isCoroutine := false } : Scope)) (by decide +kernel)) (fun _ _ _ _ _ => (pg_name (i := 19) sc_law.nd rfl (Or.inl rfl))) (fun _ _ _ _ _ => pts_nil) (fun _ _ _ _ _ => (pe_callTy (r := Jv.rListOf K) call_list_of (by rfl) O.z_list (by decide +kernel) (pa_cons (pv 19) pa_nil))))
  (pss_cons (ps_asg (pe_call (ok_Lunlike_ends T O) (hr.mono (by decide)) (by rfl) O.m_Lunlike_ends O.F_Lunlike_ends.kp O.b_Lunlike_ends .nil pass0 (pa_cons (pv 1) (pa_cons (pe_ix (r := rIx K) ix_seq (pe_ix (r := rIx K) ix_seq (pv 9) (pe_ix (r := rIx K) ix_seq (pv 16) pe_int (fun _ _ => rfl)) (fun _ _ => rfl)) (pe_ix (r := rIx K) ix_seq (pv 16) pe_int (fun _ _ => rfl)) (fun _ _ => rfl)) (pa_cons (pv 4) pa_nil)))) (pg_sub (pe_ix (r := rIx K) ix_seq (pv 17) (pe_ix (r := rIx K) ix_seq (pv 16) pe_int (fun _ _ => rfl)) (fun _ _ => rfl)) (pe_ix (r := rIx K) ix_seq (pv 16) pe_int (fun _ _ => rfl)) set_list))
  (pss_cons (ps_set (i := 18) sc_law.nd rfl (Or.inl rfl) (pe_makeN (E := E0) O.k_Goals (ok_Goalsu_initu T O) (hr.mono (by decide)) (by rfl) O.m_Goals O.kb3_knows_Goalsu_initu passL (pa_cons (pv 4) (pa_cons (pv 17) pa_nil)) (pk_cons (pv 6) pk_nil)))
  (C8.pss_cut (ps_if (PW.pt (pw_or (pt_cmpR op_ne (pe_cmpR (Jv.op_eqO (ok_Goalsu_equ T O) O.h_Goalsu_equ O.i_Goals_nt (hr.mono (by decide)) O.b_Goalsu_equ pass0) (pv 18) (pv 8) (nomark _)) (pe_cmpR op_eq (pv 4) pe_int (nomark _)) (nomark _)) (pw_or (pt_cmpR op_ne (pe_cmpR (Jv.op_eqO (ok_Goalsu_equ T O) O.h_Goalsu_equ O.i_Goals_nt (hr.mono (by decide)) O.b_Goalsu_equ pass0) (pv 8) (pv 18) (nomark _)) (pe_cmpR op_eq (pv 4) pe_int (nomark _)) (nomark _)) (pw_or1 (pt_cmpR op_ne (pe_cmpR (Jv.op_neO (ok_Goalsu_equ T O) O.h_Goalsu_equ O.i_Goals_ne O.i_Goals_cm O.i_Goals_nt (hr.mono (by decide)) O.b_Goalsu_equ pass0) (pv 8) (pv 18) (nomark _)) (pe_cmpR op_gt (pv 4) pe_int (nomark _)) (nomark _)))))) (pss_one (ps_ret pe_bl)) pss_nil)
  (C8.pss_cut (ps_if (PW.pt (pw_or (pt_cmpR (Jv.op_eqO (ok_Goalsu_equ T O) O.h_Goalsu_equ O.i_Goals_nt (hr.mono (by decide)) O.b_Goalsu_equ pass0) (pv 8) (pv 9) (nomark _)) (pw_or1 (pt_cmpR (Jv.op_eqO (ok_Goalsu_equ T O) O.h_Goalsu_equ O.i_Goals_nt (hr.mono (by decide)) O.b_Goalsu_equ pass0) (pe_make (E := E0) O.k_Goals (ok_Goalsu_initu T O) (hr.mono (by decide)) (by rfl) O.m_Goals O.b_Goalsu_initu .nil passL (pa_cons (pv 4) (pa_cons (pv 5) (pa_cons (pe_tup (pa_cons (pe_notT (pe_ix (r := rIx K) ix_seq (pv 6) pe_int (fun _ _ => rfl))) (pa_cons (pe_ix (r := rIx K) ix_seq (pv 6) pe_int (fun _ _ => rfl)) pa_nil))) pa_nil)))) (pv 8) (nomark _))))) (pss_one (ps_ret pe_bl)) pss_nil)
  (pss_one (ps_if (pt_not (pt_val (pe_call (ok_Lrefused T O) (hr.mono (by decide)) (by rfl) O.m_Lrefused O.F_Lrefused.kp O.b_Lrefused .nil pass0 (pa_cons (pv 1) (pa_cons (pv 3) (pa_cons (pv 4) (pa_cons (pv 5) (pa_cons (pv 6) pa_nil)))))))) (pss_one (ps_ret pe_bl)) pss_nil)))))))))))))))))))))))))))
  (pss_one (ps_ret pe_bl)))), ?_⟩
  walk_at "r"
  refine ⟨sc, ns, rfl, hS, few, fun h hl H0 s0 nh hh0 => ?_⟩
  walk_at "r"
  refine ⟨3, rfl, by decide, by decide, ?_⟩
  refine for_range (lo := 0) (n := 3) (fun i σ H' => ∃ y2 y3 y4 y5 y6 y7 y8 y9 y10 y11 y12 y13 y14 y15 y16 y17 y18 y19 y20, σ = [some (.ref sc), some (.ref h), y2, y3, y4, y5, y6, y7, y8, y9, y10, y11, y12, y13, y14, y15, y16, y17, y18, y19, y20] ∧ Jv.Hand H' h hl) ⟨_, _, _, _, _, _, _, _, _, _, _, _, _, _, _, _, _, _, _, rfl, hh0⟩ ?_ ?_
  case refine_2 =>
    rintro σ H1 ⟨y2, y3, y4, y5, y6, y7, y8, y9, y10, y11, y12, y13, y14, y15, y16, y17, y18, y19, y20, rfl, hh⟩
    walk_at "r"
    exact k _
  clear hh0 s0 nh hS few
  rintro i σ H1 hi ⟨y2, y3, y4, y5, y6, y7, y8, y9, y10, y11, y12, y13, y14, y15, y16, y17, y18, y19, y20, rfl, hh1⟩
  walk_at "r"
  refine ⟨h, hl, rfl, hh1, fun sA p' q' H2 hb kp2 hh2 es2 => ?_⟩
  obtain ⟨p, rfl⟩ : ∃ p : Nat, p' = p := ⟨p'.toNat, by omega⟩
  obtain ⟨q, rfl⟩ : ∃ q : Nat, q' = q := ⟨q'.toNat, by omega⟩
  have hp : 1 ≤ p ∧ p ≤ 6 := by omega
  have hq : 1 ≤ q ∧ q ≤ 6 := by omega
  have hpq : p * q ≤ 12 := by have := hb.2.2; exact_mod_cast this
  walk_at "r"
  refine ⟨h, hl, _, rfl, hh2, ⟨by decide, Jv.log_small (by decide) (by decide)⟩, fun l H3 z0 z1 kp3 hh3 => ?_⟩
  have es3 := kp3 _ _ (hh2.neTup es2) es2
  have hlb : 0 ≤ l ∧ l ≤ 6 := by omega
  walk_at "r"
  refine ⟨h, hl, sA, l, p, q, rfl, hh3, es3, hlb, ⟨by omega, by omega⟩, fun x d L H4 hx hL hR kp4 hh4 => ?_⟩
  have es4 := kp4 _ _ (hh3.neTup es3) es3
  have fix : Fix l d L p q := ⟨hL, hR, hlb, hp, hq, hpq⟩
  walk_at "r"
  refine ⟨h, hl, rfl, hh4, fun kA k0 k1 H5 nk ek5 kp5 hh5 => ?_⟩
  have es5 := kp5 _ _ (hh4.neTup es4) es4
  have hx5 := hx.same kp5.hide
  obtain ⟨lay1, lay2, lay3, lay4⟩ := lines_lay hL hR hlb.2 hp.2 hq.2
  obtain ⟨X, rfl⟩ : ∃ X, x = .ref X := by
    obtain ⟨rows, er, _⟩ := hL
    cases hx with
    | lst _ _ => exact ⟨_, rfl⟩
    | tup _ _ => exact ⟨_, rfl⟩
    | _ => cases er
  walk_at "r"
  refine ⟨X, d, rfl, (hx5.same Jv.hide_le).dp, lay1, lay2, lay3, lay4, ?_⟩
  walk_at "r"
  refine gen_make fun Q1 hQ1 => r_make0 ?_
  walk_at "r"
  refine Jv.r_listOf (.inr (Jv.sqT_at ek5)) fun M hM => ?_
  have n6 := Jv.same_new (u := .lst [.bl k0, .bl k1]) hM
  have eM : upd H5 M (.lst [.bl k0, .bl k1]) M = some (.lst [.bl k0, .bl k1]) := upd_same
  have hh6 := hh5.same n6
  have es6 := n6 _ _ es5
  have ek6 := n6 _ _ ek5
  have hx6 := hx5.same (Jv.hide_same (N := [h]) n6)
  generalize upd H5 M (.lst [.bl k0, .bl k1]) = H6 at n6 eM hh6 es6 ek6 hx6 ⊢
  walk_at "r"
  refine mk_good (.int l) (hx6.same Jv.hide_le) (.lst eM (.cons (.bl _) (.cons (.bl _) .nil))) (fix.good (dk := .list [.bool k0, .bool k1]) rfl) fun g H7 s7 _ ga7 => hQ1 _ _ ?_
  rw [want_eq] at ga7
  have ga7' : GAt K H7 T.C_Goals g l (wantT (neatL l L)) k0 k1 p q := ga7
  walk_at "r"
  refine ⟨.ref X, d, L, l, p, q, rfl, (hx6.same Jv.hide_le).same s7, hL, hR, hlb, ⟨by omega, by omega⟩, fun wA H8 s8 dw8 => ?_⟩
  have s68 := s7.trans s8
  have hh8 := hh6.same s68
  have sit : Sit K T.C_Goals h hl sA kA g (.ref X) wA l d L k0 k1 p q H8 := ⟨hh8, s68 _ _ es6, s68 _ _ ek6, hx6.same (Jv.hide_same s68), (ga7'.same s8).hide hh8.lst, dvW_hide hh8.lst dw8⟩
  clear hx6 ek6 es6 hh6 ga7' ga7 s68 s8 s7 n6 eM hx5 es5 hh5 ek5 nk kp5 es4 kp4 hh4 hx kp3 es3 hh3 hh2 es2 kp2 hh1 hb
  walk_at "r"
  -- the goals are as they should be
  refine ⟨St K T.C_Goals sc h hl sA kA g (.ref X) wA l d L k0 k1 p q (0 + (i : Nat)), ?_, ?_⟩
  · walk_at "r"
    refine ⟨g, l, neatL l L, k0, k1, p, q, .ref wA, .ref kA, rfl, sit.g0, fix.wd, sit.w0, sit.k0', fun H9 s9 => ?_⟩
    walk_at "r"
    refine ⟨X, d, rfl, ((sit.same s9).x0).dp, lay1, lay2, lay3, lay4, ?_⟩
    walk_at "r"
    rw [decide_eq_true rfl]
    walk_at "r"
    exact ⟨_, _, _, _, _, _, _, _, _, _, _, _, rfl, sit.same s9⟩
  clear sit hh8 dw8
  rintro σ H9 ⟨y7, y10, y11, y12, y13, y14, y15, y16, y17, y18, y19, y20, rfl, sit⟩
  have wd := fix.wd
  obtain ⟨ws, skW, alW⟩ := sit.dw.sk rfl
  have lws := alW.len
  rw [List.length_map, wd.hp] at lws
  walk_at "r"
  refine Jv.Sk.ix (xs := [.int p, .int q]) ⟨sA, rfl, .inr (Jv.sqT_at sit.es)⟩ (v := .int p) rfl ?_
  walk_at "r"
  refine ⟨-1, (p : Int) + 1, rfl, ⟨by omega, by omega, by omega, by omega⟩, ?_⟩
  refine for_range (lo := -1) (n := ((p : Int) + 1 - -1).toNat) (fun _ => St K T.C_Goals sc h hl sA kA g (.ref X) wA l d L k0 k1 p q (0 + (i : Nat))) ⟨_, _, _, _, _, _, _, _, _, _, _, _, rfl, sit⟩ ?_ ?_
  · clear skW alW lws sit ws
    rintro j σ H9 hj ⟨y7, y10, y11, y12, y13, y14, y15, y16, y17, y18, y19, y20, rfl, sit⟩
    walk_at "r"
    refine Jv.Sk.ix (xs := [.int p, .int q]) ⟨sA, rfl, .inr (Jv.sqT_at sit.es)⟩ (v := .int q) rfl ?_
    walk_at "r"
    refine ⟨-1, (q : Int) + 1, rfl, ⟨by omega, by omega, by omega, by omega⟩, ?_⟩
    generalize (-1 : Int) + (j : Nat) = e
    refine for_range (lo := -1) (n := ((q : Int) + 1 - -1).toNat) (fun _ σ H' => ∃ y7 y11 y12 y13 y14 y15 y16 y17 y18 y19 y20, σ = [some (.ref sc), some (.ref h), some (.int (0 + (i : Nat))), some (.ref sA), some (.int l), some (.ref X), some (.ref kA), y7, some (.ref g), some (.ref wA), some (.int e), y11, y12, y13, y14, y15, y16, y17, y18, y19, y20] ∧ Sit K T.C_Goals h hl sA kA g (.ref X) wA l d L k0 k1 p q H') ⟨_, _, _, _, _, _, _, _, _, _, _, rfl, sit⟩ ?_ ?_
    case refine_2 =>
      rintro σ H10 ⟨y7, y11, y12, y13, y14, y15, y16, y17, y18, y19, y20, rfl, sit⟩
      exact ⟨_, _, _, _, _, _, _, _, _, _, _, _, rfl, sit⟩
    clear sit
    rintro j2 σ H10 hj2 ⟨y7, y11, y12, y13, y14, y15, y16, y17, y18, y19, y20, rfl, sit⟩
    walk_at "r"
    generalize (-1 : Int) + (j2 : Nat) = f
    intro t ht
    have n1 := Jv.same_new (u := .lst [.str "bad"]) ht
    have et : upd H10 t (.lst [.str "bad"]) t = some (.lst [.str "bad"]) := upd_same
    have sit1 := sit.same n1
    generalize upd H10 t (.lst [.str "bad"]) = H11 at n1 et sit1 ⊢
    walk_at "r"
    refine ⟨fun σ H' => ∃ y7 v12 y13 y14 y15 y16 y17 y18 y19 y20, σ = [some (.ref sc), some (.ref h), some (.int (0 + (i : Nat))), some (.ref sA), some (.int l), some (.ref X), some (.ref kA), y7, some (.ref g), some (.ref wA), some (.int e), some (.int f), some v12, y13, y14, y15, y16, y17, y18, y19, y20] ∧ Jv.Dv K H' v12 (dueD (neatL l L) p q e f) ∧ Sit K T.C_Goals h hl sA kA g (.ref X) wA l d L k0 k1 p q H', ?_, ?_⟩
    · have no : ¬ ((0 ≤ e ∧ e < p) ∧ (0 ≤ f ∧ f < q)) → dueD (neatL l L) p q e f = .list [.str "bad"] := fun n => if_neg n
      have dt : Jv.Dv K H11 (.ref t) (.list [.str "bad"]) := .lst et (.cons (.str _) .nil)
      walk_at "r"
      refine Jv.r_dec (fun c1 => ?_) (fun c1 => ?_)
      case refine_2 =>
        walk_at "r"
        exact ⟨_, _, _, _, _, _, _, _, _, _, rfl, by rw [no fun z => c1 z.1.1]; exact dt, sit1⟩
      walk_at "r"
      refine Jv.Sk.ix (xs := [.int p, .int q]) ⟨sA, rfl, .inr (Jv.sqT_at sit1.es)⟩ (v := .int p) rfl ?_
      walk_at "r"
      refine Jv.r_dec (fun c2 => ?_) (fun c2 => ?_)
      case refine_2 =>
        walk_at "r"
        exact ⟨_, _, _, _, _, _, _, _, _, _, rfl, by rw [no fun z => c2 z.1.2]; exact dt, sit1⟩
      walk_at "r"
      refine Jv.r_dec (fun c3 => ?_) (fun c3 => ?_)
      case refine_2 =>
        walk_at "r"
        exact ⟨_, _, _, _, _, _, _, _, _, _, rfl, by rw [no fun z => c3 z.2.1]; exact dt, sit1⟩
      walk_at "r"
      refine Jv.Sk.ix (xs := [.int p, .int q]) ⟨sA, rfl, .inr (Jv.sqT_at sit1.es)⟩ (v := .int q) rfl ?_
      walk_at "r"
      refine Jv.r_dec (fun c4 => ?_) (fun c4 => ?_)
      case refine_2 =>
        walk_at "r"
        exact ⟨_, _, _, _, _, _, _, _, _, _, rfl, by rw [no fun z => c4 z.2.2]; exact dt, sit1⟩
      walk_at "r"
      obtain ⟨line, a1, a2, a3, a4⟩ := wd.at ⟨c1, c2⟩ ⟨c3, c4⟩
      obtain ⟨ws, skW, alW⟩ := sit1.w0.sk rfl
      obtain ⟨rv, r1, r2⟩ := alW.of (i := e.toNat) (d := lineT line) (by rw [List.getElem?_map, a1]; rfl)
      refine skW.ix (Jv.at_i c1 r1) ?_
      walk_at "r"
      obtain ⟨us, skU, alU⟩ := r2.sk rfl
      obtain ⟨cv, d1, d2⟩ := alU.of (i := f.toNat) (d := .tuple ((cell (neatL l L) e f).map .int)) (by rw [List.getElem?_map, a3]; rfl)
      refine skU.ix (Jv.at_i c3 d1) ?_
      walk_at "r"
      exact ⟨_, _, _, _, _, _, _, _, _, _, rfl, by rw [show dueD (neatL l L) p q e f = .tuple ((cell (neatL l L) e f).map .int) from if_pos ⟨⟨c1, c2⟩, ⟨c3, c4⟩⟩]; exact d2, sit1⟩
    clear sit1 et n1 ht sit
    rintro σ H12 ⟨y7, v12, y13, y14, y15, y16, y17, y18, y19, y20, rfl, dv, sit⟩
    have ask : ∀ (Hx : Hp) (u : V) (dd : PyData) (Q' : VK), Same H12 Hx → Jv.Dv K Hx u dd → Jv.seqD dd = some [.int e, .int f] → (∀ v H', Same Hx H' → Jv.Dv K H' v (dueD (neatL l L) p q e f) → Q' v H') → sp_Lends_told K T.C_Goals [.ref g, u] Hx Q' E0 := fun Hx u dd Q' sx du ed kk => by
      refine ⟨g, u, l, neatL l L, k0, k1, p, q, dd, rfl, (sit.same sx).g0, wd, du, ?_⟩
      by_cases c : (0 ≤ e ∧ e < (p : Int)) ∧ (0 ≤ f ∧ f < (q : Int))
      · refine .inl ⟨e, f, ed, c.1, c.2, fun v H' s' dv' => kk v H' s' ?_⟩
        rw [show dueD (neatL l L) p q e f = .tuple ((cell (neatL l L) e f).map .int) from if_pos c]; exact dv'
      · refine .inr ⟨couple_no c ed, fun v H' s' dv' => kk v H' s' ?_⟩
        rw [show dueD (neatL l L) p q e f = .list [.str "bad"] from if_neg c]; exact dv'
    walk_at "r"
    intro t1 ht1
    have n1 := Jv.same_new (u := .tup [.int e, .int f]) ht1
    walk_at "r"
    refine ask _ (.ref t1) (.tuple [.int e, .int f]) _ n1 (.tup (Jv.sqT_at upd_same) (.cons (.int _) (.cons (.int _) .nil))) rfl fun v H13 s13 dv13 => ?_
    have s12 := n1.trans s13
    walk_at "r"
    refine ne_self dv13 (dv.same s12) (shaped_due _ _ _ _ _) ?_
    walk_at "r"
    intro t2 ht2
    have n2 := Jv.same_new (u := .lst [.int e, .int f]) ht2
    walk_at "r"
    refine ask _ (.ref t2) (.list [.int e, .int f]) _ (s12.trans n2) (.lst upd_same (.cons (.int _) (.cons (.int _) .nil))) rfl fun v H14 s14 dv14 => ?_
    have s124 := s12.trans (n2.trans s14)
    walk_at "r"
    refine ne_self dv14 (dv.same s124) (shaped_due _ _ _ _ _) ?_
    walk_at "r"
    exact ⟨_, _, _, _, _, _, _, _, _, _, _, rfl, sit.same s124⟩
  clear skW alW lws sit ws
  rintro σ H9 ⟨y7, y10, y11, y12, y13, y14, y15, y16, y17, y18, y19, y20, rfl, sit⟩
  walk_at "r"
  -- couples that are none
  refine ⟨St K T.C_Goals sc h hl sA kA g (.ref X) wA l d L k0 k1 p q (0 + (i : Nat)), ?_, ?_⟩
  · walk_at "r"
    refine ⟨g, .non, l, neatL l L, k0, k1, p, q, .none, rfl, sit.g0, wd, .non, .inr ⟨rfl, fun v H10 s10 dv10 => ?_⟩⟩
    walk_at "r"
    intro t1 ht1
    have n1 := Jv.same_new (u := .lst [.str "bad"]) ht1
    walk_at "r"
    refine ne_self (dv10.same n1) (.lst upd_same (.cons (.str _) .nil)) shaped_word ?_
    walk_at "r"
    intro t2 ht2
    have n2 := Jv.same_new (u := .tup [.bl true, .int 0]) ht2
    have s1 := s10.trans (n1.trans n2)
    walk_at "r"
    refine ⟨g, .ref t2, l, neatL l L, k0, k1, p, q, .tuple [.bool true, .int 0], rfl, (sit.same s1).g0, wd, .tup (Jv.sqT_at upd_same) (.cons (.bl _) (.cons (.int _) .nil)), .inr ⟨rfl, fun v H11 s11 dv11 => ?_⟩⟩
    walk_at "r"
    intro t3 ht3
    have n3 := Jv.same_new (u := .lst [.str "bad"]) ht3
    walk_at "r"
    refine ne_self (dv11.same n3) (.lst upd_same (.cons (.str _) .nil)) shaped_word ?_
    walk_at "r"
    exact ⟨_, _, _, _, _, _, _, _, _, _, _, _, rfl, sit.same (s1.trans (s11.trans n3))⟩
  clear sit
  rintro σ H9 ⟨y7, y10, y11, y12, y13, y14, y15, y16, y17, y18, y19, y20, rfl, sit⟩
  walk_at "r"
  obtain ⟨rows, er, pr⟩ := id hL
  have lpr := Paired.length pr
  have hLp := hR.hp
  obtain ⟨ws, skW, alW⟩ := sit.x0.sk er
  have lws := alW.len
  refine Jv.lcNew2 (K := K) (j := 19) (i := 5) rfl skW (L.map rL) (by rw [List.length_map]; omega) (by omega) (fun i v e D1 H6 hi hv he s6 hD1 ⟨_, hD6⟩ PP hP => ?_) (fun D A0 H10 s10 ft0 fr0 => ?_)
  · obtain ⟨r, c1, c2⟩ := alW.at hv
    obtain ⟨line, hline, hLR⟩ := pairAt pr c1
    rw [List.getElem?_map, hline] at he
    obtain rfl := Option.some.inj he
    obtain ⟨es', ers, prl⟩ := hLR
    obtain ⟨us, skU, alU⟩ := (c2.same s6).sk ers
    have lus := alU.len
    have lpl := Paired.length prl
    have lq := hR.hq line (List.mem_of_getElem? hline)
    refine Jv.lcNew2 (K := K) (j := 20) (i := 19) rfl skU (line.map eL) (by rw [List.length_map]; omega) (by omega) (fun i2 u e2' D2 H7 hi2 hu he2 s7 hD2 ⟨_, hD7⟩ PP2 hP2 => ?_) (fun D2 B H7 s7 ft fr => ?_)
    · obtain ⟨dn, g1, g2⟩ := alU.at hu
      obtain ⟨ns, g3, hER⟩ := pairAt prl g1
      rw [List.getElem?_map, g3] at he2
      obtain rfl := Option.some.inj he2
      obtain ⟨zs, skZ, alZ⟩ := (g2.same s7).sk hER
      obtain rfl := Jv.dv_intsV alZ
      walk_at "r"
      obtain ⟨Z, rfl, hZ⟩ := skZ
      exact Jv.r_listOf hZ fun M hM => hP2 _ [M] _ (Jv.same_new hM) (.lst upd_same (Jv.FtAll.ints ns) (fun m => nomatch m)) fun a m => by rw [List.mem_singleton.mp m]; exact hM
    · exact hP _ B _ s7 ft fr
  clear skW alW lws ws lpr
  walk_at "r"
  refine gen_make fun Q2 hQ2 => r_make0 ?_
  walk_at "r"
  refine mk_good (.int l) ft0.dv (sit.same s10).k0' (hR.good hlb hp hq hpq linesEE rfl) fun o H11 s11 _ gaO => hQ2 _ _ ?_
  rw [want_eq] at gaO
  have gaO' : GAt K H11 T.C_Goals o l (wantT (neatL l L)) k0 k1 p q := gaO
  have ft1 : Jv.Ft K H11 (.ref D) (.list (L.map rL)) A0 := ft0.same s11
  have held := ft1.held
  have s911 := s10.trans s11
  cases ft1 with
  | lst eD fa nD =>
  rename_i xs A1
  have lxs := fa.len
  rw [List.length_map, hLp] at lxs
  have x0 : xs[0]? = some xs[0] := List.getElem?_eq_getElem (by omega)
  obtain ⟨dR, B, hdR, ftR, subB, _⟩ := fa.chg x0
  obtain ⟨line0, hl0, rfl⟩ := mapAt hdR
  have lq0 := hR.hq line0 (List.mem_of_getElem? hl0)
  obtain ⟨R, us, B', eRx, eR, fb, nR, mR, subB'⟩ : ∃ R us B', xs[0] = .ref R ∧ H11 R = some (.lst us) ∧ Jv.FtAll K H11 us (line0.map eL) B' ∧ R ∉ B' ∧ R ∈ A1 ∧ ∀ b ∈ B', b ∈ A1 := by
    generalize xs[0] = v at ftR
    have ftR' : Jv.Ft K H11 v (.list (line0.map eL)) B := ftR
    cases ftR' with
    | lst a b c => exact ⟨_, _, _, rfl, a, b, c, subB _ List.mem_cons_self, fun z m => subB z (List.mem_cons_of_mem _ m)⟩
  have lus := fb.len
  rw [List.length_map, lq0] at lus
  rw [eRx] at x0
  have u0 : us[0]? = some us[0] := List.getElem?_eq_getElem (by omega)
  obtain ⟨dN, Cs, hdN, ftN, subC, _⟩ := fb.chg u0
  obtain ⟨ns0, hn0, rfl⟩ := mapAt hdN
  obtain ⟨U, eUx, eU, mU⟩ : ∃ U, us[0] = .ref U ∧ H11 U = some (.lst (ns0.map V.int)) ∧ U ∈ B' := by
    generalize us[0] = v at ftN
    have ftN' : Jv.Ft K H11 v (.list (ns0.map .int)) Cs := ftN
    cases ftN' with
    | lst a b c =>
      rw [Jv.dv_intsV b.dv] at a
      exact ⟨_, rfl, a, subC _ List.mem_cons_self⟩
  rw [eUx] at u0
  have fns0 := (hR.ends line0 (List.mem_of_getElem? hl0) ns0 (List.mem_of_getElem? hn0)).2.1
  have mU1 := subB' U mU
  have nUD : U ≠ D := fun z => nD (z ▸ mU1)
  have nRU : R ≠ U := fun z => nR (z ▸ mU)
  walk_at "r"
  refine Jv.Sk.ix (xs := xs) ⟨D, rfl, .inl (Jv.sqL_at eD)⟩ (Jv.at_i (k := 0) (by decide) x0) ?_
  walk_at "r"
  refine Jv.Sk.ix (xs := us) ⟨R, rfl, .inl (Jv.sqL_at eR)⟩ (Jv.at_i (k := 0) (by decide) u0) ?_
  walk_at "r"
  refine Jv.r_app eU (by rw [List.length_map]; omega) ?_
  have eD2 : upd H11 U (.lst (ns0.map V.int ++ [.int 0])) D = some (.lst xs) := by rw [upd_ne nUD.symm]; exact eD
  walk_at "r"
  refine Jv.Sk.ix (xs := xs) ⟨D, rfl, .inl (Jv.sqL_at eD2)⟩ (Jv.at_i (k := 0) (by decide) x0) ?_
  walk_at "r"
  refine Jv.r_app eD2 (by omega) ?_
  have sH : Same (Jv.hide (D :: A1) H11) (upd (upd H11 U (.lst (ns0.map V.int ++ [.int 0]))) D (.lst (xs ++ [.ref R]))) := fun b o e => by
    obtain ⟨n, e2⟩ := Jv.hide_some e
    rw [upd_ne (fun z => n (by rw [z]; exact List.mem_cons_self)), upd_ne (fun z => n (by rw [z]; exact List.mem_cons_of_mem _ mU1))]
    exact e2
  have s9 : Same H9 (upd (upd H11 U (.lst (ns0.map V.int ++ [.int 0]))) D (.lst (xs ++ [.ref R]))) := fun b o e => by
    rw [upd_ne (ne_of_none e (fr0 D List.mem_cons_self)), upd_ne (ne_of_none e (fr0 U (List.mem_cons_of_mem _ mU1)))]
    exact s911 b o e
  have gaO2 := (gaO'.hide held).same sH
  have sit2 := sit.same s9
  generalize upd (upd H11 U (.lst (ns0.map V.int ++ [.int 0]))) D (.lst (xs ++ [.ref R])) = H12 at gaO2 sit2 ⊢
  clear s9 sH eD2 nRU nUD mU1 fns0 u0 mU eU eUx hn0 hdN ftN subC x0 lus nR fb eR eRx lq0 hl0 hdR ftR subB lxs fa nD eD s911 held gaO' gaO s11 fr0 ft0 s10 sit
  walk_at "r"
  -- the same goals, kept though what was handed in is changed
  refine ⟨St K T.C_Goals sc h hl sA kA g (.ref X) wA l d L k0 k1 p q (0 + (i : Nat)), ?_, ?_⟩
  · have gG := sit2.g0
    obtain ⟨_, _, _, _, h1, _⟩ := id gaO2
    obtain ⟨_, _, _, _, h2, _⟩ := id gG
    walk_at "r"
    refine ⟨o, _, _, g, rfl, rfl, h1, .inl ⟨_, _, h2⟩, o, g, l, _, k0, k1, p, q, rfl, gaO2, .inl ⟨l, _, k0, k1, p, q, gG, _, rfl, ?_⟩⟩
    rw [decide_eq_true ⟨rfl, rfl, rfl, rfl⟩]
    walk_at "r"
    refine ⟨o, _, _, g, rfl, rfl, h1, .inl ⟨_, _, h2⟩, o, g, l, _, k0, k1, p, q, rfl, gaO2, .inl ⟨l, _, k0, k1, p, q, gG, _, rfl, ?_⟩⟩
    rw [decide_eq_true ⟨rfl, rfl, rfl, rfl⟩]
    walk_at "r"
    refine ⟨o, l, neatL l L, k0, k1, p, q, .ref wA, .ref kA, rfl, gaO2, wd, sit2.w0, sit2.k0', fun H13 s13 => ?_⟩
    walk_at "r"
    exact ⟨_, _, _, _, _, _, _, _, _, _, _, _, rfl, sit2.same s13⟩
  clear gaO2 sit2
  rintro σ H9 ⟨y7, y10, y11, y12, y13, y14, y15, y16, y17, y18, y19, y20, rfl, sit⟩
  walk_at "r"
  refine gen_make fun Q3 hQ3 => r_make0 ?_
  walk_at "r"
  refine mk_good (.int l) sit.x0 (.tup (O.y0_Goalsu_initu _) (.cons (.bl _) (.cons (.bl _) .nil))) (fix.good (dk := .tuple [.bool false, .bool false]) rfl) fun o H10 s10 _ gaO => hQ3 _ _ ?_
  rw [want_eq] at gaO
  have gaO' : GAt K H10 T.C_Goals o l (wantT (neatL l L)) false false p q := gaO
  have sit2 := sit.same s10
  clear gaO s10 sit
  walk_at "r"
  -- goals that nobody must know
  refine ⟨St K T.C_Goals sc h hl sA kA g (.ref X) wA l d L k0 k1 p q (0 + (i : Nat)), ?_, ?_⟩
  · obtain ⟨dx, wv, kv, tv, h1, _, hK, _⟩ := id gaO'
    walk_at "r"
    refine Jv.r_fld ?_
    walk_at "r"
    refine ⟨o, _, dx, _, _, rfl, h1, O.o_Goals, O.n_Goals_knows, rfl, ?_⟩
    walk_at "r"
    intro t1 ht1
    have n1 := Jv.same_new (u := .tup [.bl false, .bl false]) ht1
    have et1 : upd H10 t1 (.tup [.bl false, .bl false]) t1 = some (.tup [.bl false, .bl false]) := upd_same
    have sit3 := sit2.same n1
    have ga3 := gaO'.same n1
    have hK3 := hK.same n1
    generalize upd H10 t1 (.tup [.bl false, .bl false]) = H11 at n1 et1 sit3 ga3 hK3 ⊢
    walk_at "r"
    refine ne_self hK3 (.tup (Jv.sqT_at et1) (.cons (.bl _) (.cons (.bl _) .nil))) (shaped_bb _ _) ?_
    walk_at "r"
    have gG := sit3.g0
    obtain ⟨_, _, _, _, h3, _⟩ := id ga3
    obtain ⟨_, _, _, _, h4, _⟩ := id gG
    refine ⟨o, _, _, g, rfl, rfl, h3, .inl ⟨_, _, h4⟩, o, g, l, _, false, false, p, q, rfl, ga3, .inl ⟨l, _, k0, k1, p, q, gG, _, rfl, ?_⟩⟩
    walk_at "r"
    intro t2 ht2
    have n2 := Jv.same_new (u := .tup [.bl false, .bl false]) ht2
    walk_at "r"
    refine ⟨_, _, (sit3.same n2).k0'.dp, (Jv.Dv.tup (Jv.sqT_at upd_same) (.cons (.bl false) (.cons (.bl false) .nil))).dp, shaped_bb _ _, shaped_bb _ _, ?_⟩
    rw [eqv_bools]
    have eb : decide (l = l ∧ neatL l L = neatL l L ∧ false = k0 ∧ false = k1) = decide (k0 = false ∧ k1 = false) := by cases k0 <;> cases k1 <;> simp
    rw [eb]
    walk_at "r"
    rw [decide_eq_true rfl]
    walk_at "r"
    exact ⟨_, _, _, _, _, _, _, _, _, _, _, _, rfl, sit3.same n2⟩
  clear gaO' sit2
  rintro σ H9 ⟨y7, y10, y11, y12, y13, y14, y15, y16, y17, y18, y19, y20, rfl, sit⟩
  walk_at "r"
  -- another ladder
  refine ⟨St K T.C_Goals sc h hl sA kA g (.ref X) wA l d L k0 k1 p q (0 + (i : Nat)), ?_, ?_⟩
  · walk_at "r"
    refine Jv.r_dec (fun c => ?_) (fun c => ?_)
    case refine_2 =>
      walk_at "r"
      exact ⟨_, _, _, _, _, _, _, _, _, _, _, _, rfl, sit⟩
    walk_at "r"
    refine gen_make fun Q4 hQ4 => r_make0 ?_
    walk_at "r"
    have hR1 : Rw (l + 1) L p q := ⟨hR.hp, hR.hq, fun line hm ns hn => ⟨(hR.ends line hm ns hn).1, (hR.ends line hm ns hn).2.1, fun n hx => by have := (hR.ends line hm ns hn).2.2 n hx; omega⟩⟩
    refine mk_good (.int (l + 1)) sit.x0 sit.k0' (hR1.good ⟨by omega, by omega⟩ hp hq hpq hL rfl) fun c1 H10 s10 _ gaC => hQ4 _ _ ?_
    rw [want_eq] at gaC
    have gaC' : GAt K H10 T.C_Goals c1 (l + 1) (wantT (neatL (l + 1) L)) k0 k1 p q := gaC
    have sit2 := sit.same s10
    have gG := sit2.g0
    obtain ⟨_, _, _, _, h1, _⟩ := id gaC'
    obtain ⟨_, _, _, _, h2, _⟩ := id gG
    walk_at "r"
    refine ⟨c1, _, _, g, rfl, rfl, h1, .inl ⟨_, _, h2⟩, c1, g, l + 1, _, k0, k1, p, q, rfl, gaC', .inl ⟨l, _, k0, k1, p, q, gG, _, rfl, ?_⟩⟩
    rw [decide_eq_false (fun z => by have := z.1; omega)]
    walk_at "r"
    exact ⟨_, _, _, _, _, _, _, _, _, _, _, _, rfl, sit2⟩
  clear sit
  rintro σ H9 ⟨y7, y10, y11, y12, y13, y14, y15, y16, y17, y18, y19, y20, rfl, sit⟩
  walk_at "r"
  refine Jv.Sk.ix (xs := [.int p, .int q]) ⟨sA, rfl, .inr (Jv.sqT_at sit.es)⟩ (v := .int p) rfl ?_
  walk_at "r"
  refine ⟨h, hl, _, rfl, sit.hh, ⟨by omega, Jv.log_small (by omega) (by omega)⟩, fun e0 H10 a0 a1 kp10 hh10 => ?_⟩
  obtain ⟨e, rfl⟩ : ∃ e : Nat, e0 = e := ⟨e0.toNat, by omega⟩
  have sit10 := sit.kp kp10 hh10
  clear sit kp10 hh10
  walk_at "r"
  refine Jv.Sk.ix (xs := [.int p, .int q]) ⟨sA, rfl, .inr (Jv.sqT_at sit10.es)⟩ (v := .int q) rfl ?_
  walk_at "r"
  refine ⟨h, hl, _, rfl, sit10.hh, ⟨by omega, Jv.log_small (by omega) (by omega)⟩, fun f0 H11 b0 b1 kp11 hh11 => ?_⟩
  obtain ⟨f, rfl⟩ : ∃ e : Nat, f0 = e := ⟨f0.toNat, by omega⟩
  have sit11 := sit10.kp kp11 hh11
  clear sit10 kp11 hh11
  walk_at "r"
  intro ca hca
  have n12 := Jv.same_new (u := .tup [.int e, .int f]) hca
  have eca : upd H11 ca (.tup [.int e, .int f]) ca = some (.tup [.int e, .int f]) := upd_same
  have sit := sit11.same n12
  generalize upd H11 ca (.tup [.int e, .int f]) = H12 at n12 eca sit ⊢
  clear sit11 n12 hca
  obtain ⟨line, a2, a3, a4, a5⟩ := wd.at (e := e) (f := f) ⟨by omega, by omega⟩ ⟨by omega, by omega⟩
  rw [Int.toNat_natCast] at a2 a4
  have hpL := wd.hp
  have hlq := wd.hq line a3
  obtain ⟨ws, skW, alW⟩ := sit.dw.sk rfl
  have lws := alW.len
  rw [List.length_map, hpL] at lws
  obtain ⟨F, hF⟩ := Jv.rows_of alW (fun d hd => by
    obtain ⟨li, _, rfl⟩ := List.mem_map.mp hd
    rfl)
  walk_at "r"
  refine Jv.lcOwn2 (K := K) (j := 19) (i := 9) rfl (skW.same Jv.hide_le) F (by omega) (fun i v D1 H6 hi hv s6 hD1 PP hP => ?_) (fun D1 As H13 s13 hD1 lA nd nD hn eD1 al => ?_)
  · obtain ⟨dl, c1, _⟩ := alW.at hv
    obtain ⟨⟨b, rfl, hb⟩, _⟩ := hF i v dl hv c1
    have hb0 := hb.imp (fun h => Jv.hide_le.seq h) (fun h => Jv.Same.sqT Jv.hide_le h)
    walk_at "r"
    exact Jv.r_listOf (hb0.imp (fun h => s6.seq h) (fun h => Jv.Same.sqT s6 h)) fun t2 ht2 => hP t2 _ ht2 (Jv.same_new ht2) upd_same
  have heA : e < As.length := by omega
  obtain ⟨b, hbA⟩ : ∃ b, As[e]? = some b := ⟨_, List.getElem?_eq_getElem heA⟩
  have hbm := List.mem_of_getElem? hbA
  have eb := al _ b hbA
  have hwe : e < ws.length := by omega
  have sit13 := sit.same s13
  have eca13 := s13 _ _ eca
  have ncah := sit.hh.neTup eca
  -- the entry of the wanted ends
  obtain ⟨us, hus, skR, al0⟩ : ∃ us, F e = us ∧ Jv.Sk K (Jv.hide [h] H12) ws[e] us ∧ Jv.DvAll K (Jv.hide [h] H12) us (line.map fun ns => .tuple (ns.map .int)) := by
    obtain ⟨sk, es, g1, g2⟩ := hF e ws[e] (lineT line) (List.getElem?_eq_getElem hwe) (by rw [List.getElem?_map, a2]; rfl)
    cases g1
    exact ⟨_, rfl, sk, g2⟩
  have lus := al0.len
  rw [List.length_map, hlq] at lus
  obtain ⟨cv, d1, d2⟩ := al0.of (i := f) (d := .tuple ((cell (neatL l L) e f).map .int)) (by rw [List.getElem?_map, a4]; rfl)
  obtain ⟨cc, rfl, hcc⟩ : ∃ cc, cv = .ref cc ∧ SqT K (Jv.hide [h] H12) cc ((cell (neatL l L) e f).map V.int) := by
    cases d2 with
    | tup h qd => rw [Jv.dv_intsV qd] at h; exact ⟨_, rfl, h⟩
  have skC : Jv.Sk K H13 (.ref ca) [.int e, .int f] := ⟨ca, rfl, .inr (Jv.sqT_at eca13)⟩
  walk_at "r"
  refine skC.ix (k := 0) (v := .int e) rfl ?_
  walk_at "r"
  refine ((skW.same Jv.hide_le).same s13).ix (Jv.at_i (by omega) (by rw [Int.toNat_natCast]; exact List.getElem?_eq_getElem hwe)) ?_
  walk_at "r"
  refine skC.ix (k := 1) (v := .int f) rfl ?_
  walk_at "r"
  refine ((skR.same Jv.hide_le).same s13).ix (Jv.at_i (by omega) (by rw [Int.toNat_natCast]; exact d1)) ?_
  walk_at "r"
  obtain ⟨cne, cneat⟩ := wd.ends line a3 _ a5
  refine ⟨h, hl, cc, l, cell (neatL l L) e f, rfl, sit13.hh, Jv.Same.sqT (Jv.hide_same s13) hcc, hlb, cne, cneat, fun v dv ms H14 dvv edv msne msf msb msi kp14 hh14 => ?_⟩
  have nAs : ∀ c ∈ As, c ≠ h := fun c m => (sit.hh.ne2 (hn c m)).1
  have nD1h : D1 ≠ h := (sit.hh.ne2 hD1).1
  have eca14 := kp14 _ _ ncah eca13
  have eD14 := kp14 _ _ nD1h eD1
  have eb14 := kp14 _ _ (nAs b hbm) eb
  have skC14 : Jv.Sk K H14 (.ref ca) [.int e, .int f] := ⟨ca, rfl, .inr (Jv.sqT_at eca14)⟩
  have atA : (As.map V.ref)[e]? = some (V.ref b) := by rw [List.getElem?_map, hbA]; rfl
  walk_at "r"
  refine skC14.ix (k := 0) (v := .int e) rfl ?_
  walk_at "r"
  refine Jv.Sk.ix (xs := As.map V.ref) ⟨D1, rfl, .inl (Jv.sqL_at eD14)⟩ (Jv.at_i (by omega) (by rw [Int.toNat_natCast]; exact atA)) ?_
  walk_at "r"
  refine skC14.ix (k := 1) (v := .int f) rfl ?_
  walk_at "r"
  rw [hus] at eb14
  refine ⟨b, us, f, f, rfl, rfl, eb14, Jv.ixN_of (by omega), ?_⟩
  have nbh := nAs b hbm
  have nbl := (sit.hh.ne2 (hn b hbm)).2
  have nbD : b ≠ D1 := fun z => nD (z ▸ hbm)
  have eb13 : H13 b = some (.lst us) := by rw [← hus]; exact eb
  have s15 : Same (Jv.hide [h] H12) (upd H14 b (.lst (us.set f v))) := fun c o ec => by
    obtain ⟨n, e2⟩ := Jv.hide_some ec
    rw [upd_ne (ne_of_none e2 (hn b hbm))]
    exact kp14 c o (fun z => n (by rw [z]; exact List.mem_singleton.mpr rfl)) (s13 c o e2)
  have sit15 : Sit K T.C_Goals h hl sA kA g (.ref X) wA l d L k0 k1 p q (upd H14 b (.lst (us.set f v))) := sit.kp (fun c o nc ec => by
    rw [upd_ne (ne_of_none ec (hn b hbm))]
    exact kp14 c o nc (s13 c o ec)) (hh14.upd nbh nbl)
  have sv : Same (Jv.newer H13 H14) (upd H14 b (.lst (us.set f v))) := fun c o ec => by
    obtain ⟨n, e2⟩ := Jv.newer_not ec
    rw [upd_ne (fun z => n us (by rw [z]; exact eb13))]
    exact e2
  have dB : Jv.Dv K (upd H14 b (.lst (us.set f v))) (.ref D1) (.list (((neatL l L).map rowB).set e (.list ((line.map tI).set f dv)))) := by
    refine .lst (by rw [upd_ne nbD.symm]; exact eD14) (Jv.dvAll_mk (by rw [List.length_map, List.length_set, List.length_map]; omega) fun j u dd hu hd => ?_)
    rw [List.getElem?_map] at hu
    obtain ⟨c, hc, rfl⟩ := Option.map_eq_some_iff.mp hu
    by_cases hje : j = e
    · subst hje
      rw [hbA] at hc
      cases hc
      rw [List.getElem?_set_self (by rw [List.length_map]; omega)] at hd
      cases hd
      exact .lst upd_same (setAll (dvv.same sv) f (al0.same s15))
    · rw [List.getElem?_set_ne (fun z => hje z.symm), List.getElem?_map] at hd
      obtain ⟨li, hli, rfl⟩ := Option.map_eq_some_iff.mp hd
      have hcb : c ≠ b := fun z => hje (nodupAt nd (z ▸ hc) hbA)
      have hjw : j < ws.length := by
        have := (List.getElem?_eq_some_iff.mp hli).1
        omega
      obtain ⟨_, es, g1, g2⟩ := hF j ws[j] (lineT li) (List.getElem?_eq_getElem hjw) (by rw [List.getElem?_map, hli]; rfl)
      cases g1
      exact .lst (by rw [upd_ne hcb]; exact kp14 _ _ (nAs c (List.mem_of_getElem? hc)) (al j c hc)) (g2.same s15)
  have hLB : LinesR (.list (((neatL l L).map rowB).set e (.list ((line.map tI).set f dv)))) ((neatL l L).set e (line.set f ms)) :=
    ⟨_, rfl, pair_set (pair_map fun li _ => ⟨_, rfl, pair_map fun ns _ => rfl⟩) ⟨_, rfl, pair_set (pair_map fun ns _ => rfl) edv⟩⟩
  have hRB : Rw l ((neatL l L).set e (line.set f ms)) p q := by
    refine ⟨by rw [List.length_set]; exact hpL, fun li m => ?_, fun li m ns hm => ?_⟩
    · rcases List.mem_or_eq_of_mem_set m with m | rfl
      · exact wd.hq li m
      · rw [List.length_set]; exact hlq
    · rcases List.mem_or_eq_of_mem_set m with m | rfl
      · exact ⟨(wd.ends li m ns hm).1, wd.range m hm⟩
      · rcases List.mem_or_eq_of_mem_set hm with hm | rfl
        · exact ⟨(wd.ends line a3 ns hm).1, wd.range a3 hm⟩
        · exact ⟨msne, msf, msb⟩
  have eqM : neatL l ((neatL l L).set e (line.set f ms)) = neatL l L ↔ l = 0 := by
    have e1 : neatL l ((neatL l L).set e (line.set f ms)) = (neatL l L).set e (line.set f (neatI l ms)) := by
      show ((neatL l L).set e (line.set f ms)).map (fun line => line.map (neatI l)) = _
      have e2 : line.map (neatI l) = line := by
        have : ∀ ns ∈ line, neatI l ns = ns := fun ns hm => (wd.ends line a3 ns hm).2
        rw [List.map_congr_left (g := id) this, List.map_id]
      rw [List.map_set, wd.same, List.map_set, e2]
    rw [e1, ← msi]
    exact set_iff a2 a4
  clear dvv sv s15 skC14 atA eb14 eD14 eca14 nD1h nAs hcc d2 d1 lus al0 skR hus sit13 eca13 eb13 hF lws alW skW sit hn nD nd lA hD1 eD1 al s13 eca hh14 kp14
  generalize upd H14 b (.lst (us.set f v)) = H15 at sit15 dB ⊢
  generalize (neatL l L).set e (line.set f ms) = LB at hLB hRB eqM
  walk_at "r"
  refine gen_makeN fun Q5 hQ5 => r_makeN ?_
  walk_at "r"
  refine ⟨rfl, rfl, ?_⟩
  refine mk_good (.int l) dB sit15.k0' (hRB.good hlb hp hq hpq hLB rfl) fun u H16 s16 _ gaU => hQ5 _ _ ?_
  rw [want_eq] at gaU
  have gaU' : GAt K H16 T.C_Goals u l (wantT (neatL l LB)) k0 k1 p q := gaU
  have sit := sit15.same s16
  clear gaU sit15 dB s16
  walk_at "r"
  -- goals with other ends for one couple
  refine ⟨St K T.C_Goals sc h hl sA kA g (.ref X) wA l d L k0 k1 p q (0 + (i : Nat)), ?_, ?_⟩
  · have gG := sit.g0
    obtain ⟨_, _, _, _, h1, _⟩ := id gaU'
    obtain ⟨_, _, _, _, h2, _⟩ := id gG
    have ed1 : decide (l = l ∧ neatL l LB = neatL l L ∧ k0 = k0 ∧ k1 = k1) = decide (l = 0) := decide_eq_decide.mpr ⟨fun z => eqM.mp z.2.1, fun z => ⟨rfl, eqM.mpr z, rfl, rfl⟩⟩
    have ed2 : decide (l = l ∧ neatL l L = neatL l LB ∧ k0 = k0 ∧ k1 = k1) = decide (l = 0) := decide_eq_decide.mpr ⟨fun z => eqM.mp z.2.1.symm, fun z => ⟨rfl, (eqM.mpr z).symm, rfl, rfl⟩⟩
    have ei : decide (V.int l = V.int 0) = decide (l = 0) := decide_eq_decide.mpr ⟨fun z => V.int.inj z, fun z => by rw [z]⟩
    have eg : (!decide (l = 0)) = decide (0 < l) := by
      by_cases c : l = 0
      · subst c; rfl
      · rw [decide_eq_false c, decide_eq_true (by omega)]; rfl
    walk_at "r"
    refine ⟨u, _, _, g, rfl, rfl, h1, .inl ⟨_, _, h2⟩, u, g, l, _, k0, k1, p, q, rfl, gaU', .inl ⟨l, _, k0, k1, p, q, gG, _, rfl, ?_⟩⟩
    rw [ed1]
    walk_at "r"
    rw [ei, decide_eq_true rfl]
    walk_at "r"
    refine ⟨g, _, _, u, rfl, rfl, h2, .inl ⟨_, _, h1⟩, g, u, l, _, k0, k1, p, q, rfl, gG, .inl ⟨l, _, k0, k1, p, q, gaU', _, rfl, ?_⟩⟩
    rw [ed2]
    walk_at "r"
    rw [ei, decide_eq_true rfl]
    walk_at "r"
    refine ⟨g, _, _, u, rfl, rfl, h2, .inl ⟨_, _, h1⟩, g, u, l, _, k0, k1, p, q, rfl, gG, .inl ⟨l, _, k0, k1, p, q, gaU', _, rfl, ?_⟩⟩
    rw [ed2, eg]
    walk_at "r"
    rw [decide_eq_true rfl]
    walk_at "r"
    exact ⟨_, _, _, _, _, _, _, _, _, _, _, _, rfl, sit⟩
  clear gaU' sit
  rintro σ H9 ⟨y7, y10, y11, y12, y13, y14, y15, y16, y17, y18, y19, y20, rfl, sit⟩
  walk_at "r"
  -- goals against their own ends, and with another side that must know
  refine ⟨St K T.C_Goals sc h hl sA kA g (.ref X) wA l d L k0 k1 p q (0 + (i : Nat)), ?_, ?_⟩
  · have gG := sit.g0
    obtain ⟨_, _, _, _, h2, _⟩ := id gG
    obtain ⟨ys, hys⟩ : ∃ ys, SqT K H9 wA ys := by
      have := sit.w0
      cases this with
      | tup e q => exact ⟨_, e⟩
    walk_at "r"
    refine ⟨g, _, _, wA, rfl, rfl, h2, .inr ⟨ys, hys⟩, g, wA, l, _, k0, k1, p, q, rfl, gG, .inr ⟨ys, hys, _, rfl, ?_⟩⟩
    walk_at "r"
    refine gen_make fun Q6 hQ6 => r_make0 ?_
    walk_at "r"
    refine r_notT ?_
    walk_at "r"
    refine Jv.Sk.ix (xs := [.bl k0, .bl k1]) ⟨kA, rfl, .inr (Jv.sqT_at sit.ek)⟩ (v := .bl k0) rfl ?_
    refine ⟨k0, by first | exact .bl _ | rfl | exact TruV.bl | constructor, ?_⟩
    walk_at "r"
    refine Jv.Sk.ix (xs := [.bl k0, .bl k1]) ⟨kA, rfl, .inr (Jv.sqT_at sit.ek)⟩ (v := .bl k1) rfl ?_
    walk_at "r"
    intro t ht
    have n1 := Jv.same_new (u := .tup [.bl (!k0), .bl k1]) ht
    have et : upd H9 t (.tup [.bl (!k0), .bl k1]) t = some (.tup [.bl (!k0), .bl k1]) := upd_same
    have sit1 := sit.same n1
    generalize upd H9 t (.tup [.bl (!k0), .bl k1]) = H10 at n1 et sit1 ⊢
    walk_at "r"
    refine mk_good (.int l) sit1.x0 (.tup (Jv.sqT_at et) (.cons (.bl _) (.cons (.bl _) .nil))) (fix.good (dk := .tuple [.bool (!k0), .bool k1]) rfl) fun c1 H11 s11 _ gaC => hQ6 _ _ ?_
    rw [want_eq] at gaC
    have gaC' : GAt K H11 T.C_Goals c1 l (wantT (neatL l L)) (!k0) k1 p q := gaC
    have sit2 := sit1.same s11
    have gG2 := sit2.g0
    obtain ⟨_, _, _, _, h3, _⟩ := id gaC'
    obtain ⟨_, _, _, _, h4, _⟩ := id gG2
    walk_at "r"
    refine ⟨c1, _, _, g, rfl, rfl, h3, .inl ⟨_, _, h4⟩, c1, g, l, _, !k0, k1, p, q, rfl, gaC', .inl ⟨l, _, k0, k1, p, q, gG2, _, rfl, ?_⟩⟩
    rw [decide_eq_false (fun z => by have := z.2.2.1; cases k0 <;> cases this)]
    walk_at "r"
    exact ⟨_, _, _, _, _, _, _, _, _, _, _, _, rfl, sit2⟩
  clear sit
  rintro σ H9 ⟨y7, y10, y11, y12, y13, y14, y15, y16, y17, y18, y19, y20, rfl, sit⟩
  walk_at "r"
  refine ⟨h, hl, sA, .ref X, .ref kA, l, L, d, k0, k1, p, q, rfl, sit.hh, sit.es, sit.hx, hL, hR, hlb, hp, hq, hpq, sit.kh, fun H10 kp10 hh10 => ?_⟩
  walk_at "r"
  exact ⟨_, _, _, _, _, _, _, _, _, _, _, _, _, _, _, _, _, _, _, rfl, hh10⟩
end
end K02

namespace K02
open PySem PySem.Spec PyProof.Rows L2
theorem all_mk {P : Program} {w : World} {fa : Addr} {K : PySem.W.Frag} {h : Heap} {mg : Str → Option Value} (X : K.In h) (G : h.Ns mainGlobals mg) (hfa : mg "law" = some (.ref fa))
  {C_CallError : Addr}
  {C_BadGoals : Addr}
  {C_BadCouple : Addr}
  {C_Goals : Addr}
  {f_BadGoalsu_initu : Addr} {od_BadGoalsu_initu an_BadGoalsu_initu : Option Addr} {sl_BadGoalsu_initu : Array (Option Value)} {oc_BadGoalsu_initu kV_BadGoalsu_initu dc_BadGoalsu_initu pm_BadGoalsu_initu cd_BadGoalsu_initu ct_BadGoalsu_initu : Value}
  {f_is_whole : Addr} {od_is_whole an_is_whole : Option Addr} {sl_is_whole : Array (Option Value)} {oc_is_whole kV_is_whole dc_is_whole pm_is_whole cd_is_whole ct_is_whole : Value}
  {q_is_whole : Addr} {qc_is_whole : Value} {qd_is_whole : Option Addr} {qs_is_whole : Array (Option Value)} {qn_is_whole : Nat}
  {f_is_truth : Addr} {od_is_truth an_is_truth : Option Addr} {sl_is_truth : Array (Option Value)} {oc_is_truth kV_is_truth dc_is_truth pm_is_truth cd_is_truth ct_is_truth : Value}
  {f_is_sequence : Addr} {od_is_sequence an_is_sequence : Option Addr} {sl_is_sequence : Array (Option Value)} {oc_is_sequence kV_is_sequence dc_is_sequence pm_is_sequence cd_is_sequence ct_is_sequence : Value}
  {f_are_sides : Addr} {od_are_sides an_are_sides : Option Addr} {sl_are_sides : Array (Option Value)} {oc_are_sides kV_are_sides dc_are_sides pm_are_sides cd_are_sides ct_are_sides : Value}
  {f_check_couple : Addr} {od_check_couple an_check_couple : Option Addr} {sl_check_couple : Array (Option Value)} {oc_check_couple kV_check_couple dc_check_couple pm_check_couple cd_check_couple ct_check_couple : Value}
  {f_sides_of_lines : Addr} {od_sides_of_lines an_sides_of_lines : Option Addr} {sl_sides_of_lines : Array (Option Value)} {oc_sides_of_lines kV_sides_of_lines dc_sides_of_lines pm_sides_of_lines cd_sides_of_lines ct_sides_of_lines : Value}
  {f_are_ends : Addr} {od_are_ends an_are_ends : Option Addr} {sl_are_ends : Array (Option Value)} {oc_are_ends kV_are_ends dc_are_ends pm_are_ends cd_are_ends ct_are_ends : Value}
  {f_is_knowing : Addr} {od_is_knowing an_is_knowing : Option Addr} {sl_is_knowing : Array (Option Value)} {oc_is_knowing kV_is_knowing dc_is_knowing pm_is_knowing cd_is_knowing ct_is_knowing : Value}
  {f_Goalsu_initu : Addr} {od_Goalsu_initu an_Goalsu_initu : Option Addr} {sl_Goalsu_initu : Array (Option Value)} {oc_Goalsu_initu kV_Goalsu_initu dc_Goalsu_initu pm_Goalsu_initu cd_Goalsu_initu ct_Goalsu_initu : Value}
  {q_Goalsu_initu : Addr} {qc_Goalsu_initu : Value} {qd_Goalsu_initu : Option Addr} {qs_Goalsu_initu : Array (Option Value)} {qn_Goalsu_initu : Nat}
  {w0_Goalsu_initu : Addr} {wd0_Goalsu_initu : Option Addr} {wn0_Goalsu_initu : Nat} {ws0_Goalsu_initu : Array (Option Value)}
  {f_Goalsu_equ : Addr} {od_Goalsu_equ an_Goalsu_equ : Option Addr} {sl_Goalsu_equ : Array (Option Value)} {oc_Goalsu_equ kV_Goalsu_equ dc_Goalsu_equ pm_Goalsu_equ cd_Goalsu_equ ct_Goalsu_equ : Value}
  {f_Goals_ends_for : Addr} {od_Goals_ends_for an_Goals_ends_for : Option Addr} {sl_Goals_ends_for : Array (Option Value)} {oc_Goals_ends_for kV_Goals_ends_for dc_Goals_ends_for pm_Goals_ends_for cd_Goals_ends_for ct_Goals_ends_for : Value}
  {f_Lmix : Addr} {od_Lmix an_Lmix : Option Addr} {sl_Lmix : Array (Option Value)} {oc_Lmix kV_Lmix dc_Lmix pm_Lmix cd_Lmix ct_Lmix : Value}
  {f_Lhand : Addr} {od_Lhand an_Lhand : Option Addr} {sl_Lhand : Array (Option Value)} {oc_Lhand kV_Lhand dc_Lhand pm_Lhand cd_Lhand ct_Lhand : Value}
  {f_Ldraw : Addr} {od_Ldraw an_Ldraw : Option Addr} {sl_Ldraw : Array (Option Value)} {oc_Ldraw kV_Ldraw dc_Ldraw pm_Ldraw cd_Ldraw ct_Ldraw : Value}
  {f_Lwhole : Addr} {od_Lwhole an_Lwhole : Option Addr} {sl_Lwhole : Array (Option Value)} {oc_Lwhole kV_Lwhole dc_Lwhole pm_Lwhole cd_Lwhole ct_Lwhole : Value}
  {f_Lis : Addr} {od_Lis an_Lis : Option Addr} {sl_Lis : Array (Option Value)} {oc_Lis kV_Lis dc_Lis pm_Lis cd_Lis ct_Lis : Value}
  {f_Lwide_sides : Addr} {od_Lwide_sides an_Lwide_sides : Option Addr} {sl_Lwide_sides : Array (Option Value)} {oc_Lwide_sides kV_Lwide_sides dc_Lwide_sides pm_Lwide_sides cd_Lwide_sides ct_Lwide_sides : Value}
  {f_Lends : Addr} {od_Lends an_Lends : Option Addr} {sl_Lends : Array (Option Value)} {oc_Lends kV_Lends dc_Lends pm_Lends cd_Lends ct_Lends : Value}
  {f_Lneat : Addr} {od_Lneat an_Lneat : Option Addr} {sl_Lneat : Array (Option Value)} {oc_Lneat kV_Lneat dc_Lneat pm_Lneat cd_Lneat ct_Lneat : Value}
  {f_Lraw_wanted : Addr} {od_Lraw_wanted an_Lraw_wanted : Option Addr} {sl_Lraw_wanted : Array (Option Value)} {oc_Lraw_wanted kV_Lraw_wanted dc_Lraw_wanted pm_Lraw_wanted cd_Lraw_wanted ct_Lraw_wanted : Value}
  {f_Lneat_wanted : Addr} {od_Lneat_wanted an_Lneat_wanted : Option Addr} {sl_Lneat_wanted : Array (Option Value)} {oc_Lneat_wanted kV_Lneat_wanted dc_Lneat_wanted pm_Lneat_wanted cd_Lneat_wanted ct_Lneat_wanted : Value}
  {f_Ltruths : Addr} {od_Ltruths an_Ltruths : Option Addr} {sl_Ltruths : Array (Option Value)} {oc_Ltruths kV_Ltruths dc_Ltruths pm_Ltruths cd_Ltruths ct_Ltruths : Value}
  {f_Lgoal_facts : Addr} {od_Lgoal_facts an_Lgoal_facts : Option Addr} {sl_Lgoal_facts : Array (Option Value)} {oc_Lgoal_facts kV_Lgoal_facts dc_Lgoal_facts pm_Lgoal_facts cd_Lgoal_facts ct_Lgoal_facts : Value}
  {f_Lmade : Addr} {od_Lmade an_Lmade : Option Addr} {sl_Lmade : Array (Option Value)} {oc_Lmade kV_Lmade dc_Lmade pm_Lmade cd_Lmade ct_Lmade : Value}
  {f_Lends_told : Addr} {od_Lends_told an_Lends_told : Option Addr} {sl_Lends_told : Array (Option Value)} {oc_Lends_told kV_Lends_told dc_Lends_told pm_Lends_told cd_Lends_told ct_Lends_told : Value}
  {f_Lbad_ladder : Addr} {od_Lbad_ladder an_Lbad_ladder : Option Addr} {sl_Lbad_ladder : Array (Option Value)} {oc_Lbad_ladder kV_Lbad_ladder dc_Lbad_ladder pm_Lbad_ladder cd_Lbad_ladder ct_Lbad_ladder : Value}
  {f_Lbad_lines : Addr} {od_Lbad_lines an_Lbad_lines : Option Addr} {sl_Lbad_lines : Array (Option Value)} {oc_Lbad_lines kV_Lbad_lines dc_Lbad_lines pm_Lbad_lines cd_Lbad_lines ct_Lbad_lines : Value}
  {f_Lbad_ends : Addr} {od_Lbad_ends an_Lbad_ends : Option Addr} {sl_Lbad_ends : Array (Option Value)} {oc_Lbad_ends kV_Lbad_ends dc_Lbad_ends pm_Lbad_ends cd_Lbad_ends ct_Lbad_ends : Value}
  {f_Lbad_knows : Addr} {od_Lbad_knows an_Lbad_knows : Option Addr} {sl_Lbad_knows : Array (Option Value)} {oc_Lbad_knows kV_Lbad_knows dc_Lbad_knows pm_Lbad_knows cd_Lbad_knows ct_Lbad_knows : Value}
  {f_Lunlike_ends : Addr} {od_Lunlike_ends an_Lunlike_ends : Option Addr} {sl_Lunlike_ends : Array (Option Value)} {oc_Lunlike_ends kV_Lunlike_ends dc_Lunlike_ends pm_Lunlike_ends cd_Lunlike_ends ct_Lunlike_ends : Value}
  {f_Lrefused : Addr} {od_Lrefused an_Lrefused : Option Addr} {sl_Lrefused : Array (Option Value)} {oc_Lrefused kV_Lrefused dc_Lrefused pm_Lrefused cd_Lrefused ct_Lrefused : Value}
  {f_law : Addr} {od_law an_law : Option Addr} {sl_law : Array (Option Value)} {oc_law kV_law dc_law pm_law cd_law ct_law : Value}
  {nm_BadGoals qn_BadGoals : Str} {N_BadGoals : Addr} {bs_BadGoals : List Value} {sn_BadGoals : List Str} {sb_BadGoals : List Value} {ab_BadGoals : Bool} {co_BadGoals : Option Bool} {dd_BadGoals : Option Addr} {m0_BadGoals m1_BadGoals m2_BadGoals m3_BadGoals m5_BadGoals : Option Value}
  {t_EAST : Tok}
  {t_WEST : Tok}
  {t_LADDER_MOST : Tok}
  {t_KINDS_MOST : Tok}
  {t_COUPLES_MOST : Tok}
  (a_CallError : PySem.W.nsIn K mainGlobals "CallError" = some (some (.ref C_CallError)))
  (a_BadGoals : PySem.W.nsIn K mainGlobals "BadGoals" = some (some (.ref C_BadGoals)))
  (a_BadCouple : PySem.W.nsIn K mainGlobals "BadCouple" = some (some (.ref C_BadCouple)))
  (a_Goals : PySem.W.nsIn K mainGlobals "Goals" = some (some (.ref C_Goals)))
  (a_BadGoalsu_initu : PySem.W.findIn K (.ref C_BadGoals) "__init__" = some (some (.ref f_BadGoalsu_initu)))
  (l_BadGoalsu_initu : K.lookup f_BadGoalsu_initu = some ⟨oc_BadGoalsu_initu, od_BadGoalsu_initu, .func (PySem.W.fnOf "__init__" "BadGoals.__init__" (defArgs s_BadGoalsu_initu) (defBody s_BadGoalsu_initu) (defScope s_BadGoalsu_initu) .none kV_BadGoalsu_initu dc_BadGoalsu_initu pm_BadGoalsu_initu an_BadGoalsu_initu cd_BadGoalsu_initu ct_BadGoalsu_initu), sl_BadGoalsu_initu⟩)
  (c_BadGoalsu_initu : PySem.W.codeIn K cd_BadGoalsu_initu "BadGoals.__init__" = true)
  (k_BadGoalsu_initu : PySem.W.keepIn K (.ref f_BadGoalsu_initu) = true)
  (a_is_whole : PySem.W.nsIn K mainGlobals "is_whole" = some (some (.ref f_is_whole)))
  (l_is_whole : K.lookup f_is_whole = some ⟨oc_is_whole, od_is_whole, .func (PySem.W.fnOf "is_whole" "is_whole" (defArgs s_is_whole) (defBody s_is_whole) (defScope s_is_whole) (.ref q_is_whole) kV_is_whole dc_is_whole pm_is_whole an_is_whole cd_is_whole ct_is_whole), sl_is_whole⟩)
  (c_is_whole : PySem.W.codeIn K cd_is_whole "is_whole" = true)
  (k_is_whole : PySem.W.keepIn K (.ref f_is_whole) = true)
  (t_is_whole : K.lookup q_is_whole = some ⟨qc_is_whole, qd_is_whole, .seq #[Value.none, Value.none] qn_is_whole, qs_is_whole⟩)
  (a_is_truth : PySem.W.nsIn K mainGlobals "is_truth" = some (some (.ref f_is_truth)))
  (l_is_truth : K.lookup f_is_truth = some ⟨oc_is_truth, od_is_truth, .func (PySem.W.fnOf "is_truth" "is_truth" (defArgs s_is_truth) (defBody s_is_truth) (defScope s_is_truth) .none kV_is_truth dc_is_truth pm_is_truth an_is_truth cd_is_truth ct_is_truth), sl_is_truth⟩)
  (c_is_truth : PySem.W.codeIn K cd_is_truth "is_truth" = true)
  (k_is_truth : PySem.W.keepIn K (.ref f_is_truth) = true)
  (a_is_sequence : PySem.W.nsIn K mainGlobals "is_sequence" = some (some (.ref f_is_sequence)))
  (l_is_sequence : K.lookup f_is_sequence = some ⟨oc_is_sequence, od_is_sequence, .func (PySem.W.fnOf "is_sequence" "is_sequence" (defArgs s_is_sequence) (defBody s_is_sequence) (defScope s_is_sequence) .none kV_is_sequence dc_is_sequence pm_is_sequence an_is_sequence cd_is_sequence ct_is_sequence), sl_is_sequence⟩)
  (c_is_sequence : PySem.W.codeIn K cd_is_sequence "is_sequence" = true)
  (k_is_sequence : PySem.W.keepIn K (.ref f_is_sequence) = true)
  (a_are_sides : PySem.W.nsIn K mainGlobals "are_sides" = some (some (.ref f_are_sides)))
  (l_are_sides : K.lookup f_are_sides = some ⟨oc_are_sides, od_are_sides, .func (PySem.W.fnOf "are_sides" "are_sides" (defArgs s_are_sides) (defBody s_are_sides) (defScope s_are_sides) .none kV_are_sides dc_are_sides pm_are_sides an_are_sides cd_are_sides ct_are_sides), sl_are_sides⟩)
  (c_are_sides : PySem.W.codeIn K cd_are_sides "are_sides" = true)
  (k_are_sides : PySem.W.keepIn K (.ref f_are_sides) = true)
  (a_check_couple : PySem.W.nsIn K mainGlobals "check_couple" = some (some (.ref f_check_couple)))
  (l_check_couple : K.lookup f_check_couple = some ⟨oc_check_couple, od_check_couple, .func (PySem.W.fnOf "check_couple" "check_couple" (defArgs s_check_couple) (defBody s_check_couple) (defScope s_check_couple) .none kV_check_couple dc_check_couple pm_check_couple an_check_couple cd_check_couple ct_check_couple), sl_check_couple⟩)
  (c_check_couple : PySem.W.codeIn K cd_check_couple "check_couple" = true)
  (k_check_couple : PySem.W.keepIn K (.ref f_check_couple) = true)
  (a_sides_of_lines : PySem.W.nsIn K mainGlobals "sides_of_lines" = some (some (.ref f_sides_of_lines)))
  (l_sides_of_lines : K.lookup f_sides_of_lines = some ⟨oc_sides_of_lines, od_sides_of_lines, .func (PySem.W.fnOf "sides_of_lines" "sides_of_lines" (defArgs s_sides_of_lines) (defBody s_sides_of_lines) (defScope s_sides_of_lines) .none kV_sides_of_lines dc_sides_of_lines pm_sides_of_lines an_sides_of_lines cd_sides_of_lines ct_sides_of_lines), sl_sides_of_lines⟩)
  (c_sides_of_lines : PySem.W.codeIn K cd_sides_of_lines "sides_of_lines" = true)
  (k_sides_of_lines : PySem.W.keepIn K (.ref f_sides_of_lines) = true)
  (a_are_ends : PySem.W.nsIn K mainGlobals "are_ends" = some (some (.ref f_are_ends)))
  (l_are_ends : K.lookup f_are_ends = some ⟨oc_are_ends, od_are_ends, .func (PySem.W.fnOf "are_ends" "are_ends" (defArgs s_are_ends) (defBody s_are_ends) (defScope s_are_ends) .none kV_are_ends dc_are_ends pm_are_ends an_are_ends cd_are_ends ct_are_ends), sl_are_ends⟩)
  (c_are_ends : PySem.W.codeIn K cd_are_ends "are_ends" = true)
  (k_are_ends : PySem.W.keepIn K (.ref f_are_ends) = true)
  (a_is_knowing : PySem.W.nsIn K mainGlobals "is_knowing" = some (some (.ref f_is_knowing)))
  (l_is_knowing : K.lookup f_is_knowing = some ⟨oc_is_knowing, od_is_knowing, .func (PySem.W.fnOf "is_knowing" "is_knowing" (defArgs s_is_knowing) (defBody s_is_knowing) (defScope s_is_knowing) .none kV_is_knowing dc_is_knowing pm_is_knowing an_is_knowing cd_is_knowing ct_is_knowing), sl_is_knowing⟩)
  (c_is_knowing : PySem.W.codeIn K cd_is_knowing "is_knowing" = true)
  (k_is_knowing : PySem.W.keepIn K (.ref f_is_knowing) = true)
  (a_Goalsu_initu : PySem.W.findIn K (.ref C_Goals) "__init__" = some (some (.ref f_Goalsu_initu)))
  (l_Goalsu_initu : K.lookup f_Goalsu_initu = some ⟨oc_Goalsu_initu, od_Goalsu_initu, .func (PySem.W.fnOf "__init__" "Goals.__init__" (defArgs s_Goalsu_initu) (defBody s_Goalsu_initu) (defScope s_Goalsu_initu) (.ref q_Goalsu_initu) kV_Goalsu_initu dc_Goalsu_initu pm_Goalsu_initu an_Goalsu_initu cd_Goalsu_initu ct_Goalsu_initu), sl_Goalsu_initu⟩)
  (c_Goalsu_initu : PySem.W.codeIn K cd_Goalsu_initu "Goals.__init__" = true)
  (k_Goalsu_initu : PySem.W.keepIn K (.ref f_Goalsu_initu) = true)
  (t_Goalsu_initu : K.lookup q_Goalsu_initu = some ⟨qc_Goalsu_initu, qd_Goalsu_initu, .seq #[Value.ref w0_Goalsu_initu] qn_Goalsu_initu, qs_Goalsu_initu⟩)
  (w0_Goalsu_initu_ : K.lookup w0_Goalsu_initu = some ⟨.type "tuple", wd0_Goalsu_initu, .seq #[Value.bool false, Value.bool false] wn0_Goalsu_initu, ws0_Goalsu_initu⟩)
  (a_Goalsu_equ : PySem.W.findIn K (.ref C_Goals) "__eq__" = some (some (.ref f_Goalsu_equ)))
  (l_Goalsu_equ : K.lookup f_Goalsu_equ = some ⟨oc_Goalsu_equ, od_Goalsu_equ, .func (PySem.W.fnOf "__eq__" "Goals.__eq__" (defArgs s_Goalsu_equ) (defBody s_Goalsu_equ) (defScope s_Goalsu_equ) .none kV_Goalsu_equ dc_Goalsu_equ pm_Goalsu_equ an_Goalsu_equ cd_Goalsu_equ ct_Goalsu_equ), sl_Goalsu_equ⟩)
  (c_Goalsu_equ : PySem.W.codeIn K cd_Goalsu_equ "Goals.__eq__" = true)
  (k_Goalsu_equ : PySem.W.keepIn K (.ref f_Goalsu_equ) = true)
  (a_Goals_ends_for : PySem.W.findIn K (.ref C_Goals) "ends_for" = some (some (.ref f_Goals_ends_for)))
  (l_Goals_ends_for : K.lookup f_Goals_ends_for = some ⟨oc_Goals_ends_for, od_Goals_ends_for, .func (PySem.W.fnOf "ends_for" "Goals.ends_for" (defArgs s_Goals_ends_for) (defBody s_Goals_ends_for) (defScope s_Goals_ends_for) .none kV_Goals_ends_for dc_Goals_ends_for pm_Goals_ends_for an_Goals_ends_for cd_Goals_ends_for ct_Goals_ends_for), sl_Goals_ends_for⟩)
  (c_Goals_ends_for : PySem.W.codeIn K cd_Goals_ends_for "Goals.ends_for" = true)
  (k_Goals_ends_for : PySem.W.keepIn K (.ref f_Goals_ends_for) = true)
  (a_Lmix : PySem.W.nsIn K mainGlobals "_law_mix" = some (some (.ref f_Lmix)))
  (l_Lmix : K.lookup f_Lmix = some ⟨oc_Lmix, od_Lmix, .func (PySem.W.fnOf "_law_mix" "_law_mix" (defArgs s_Lmix) (defBody s_Lmix) (defScope s_Lmix) .none kV_Lmix dc_Lmix pm_Lmix an_Lmix cd_Lmix ct_Lmix), sl_Lmix⟩)
  (c_Lmix : PySem.W.codeIn K cd_Lmix "_law_mix" = true)
  (k_Lmix : PySem.W.keepIn K (.ref f_Lmix) = true)
  (a_Lhand : PySem.W.nsIn K mainGlobals "_law_hand" = some (some (.ref f_Lhand)))
  (l_Lhand : K.lookup f_Lhand = some ⟨oc_Lhand, od_Lhand, .func (PySem.W.fnOf "_law_hand" "_law_hand" (defArgs s_Lhand) (defBody s_Lhand) (defScope s_Lhand) .none kV_Lhand dc_Lhand pm_Lhand an_Lhand cd_Lhand ct_Lhand), sl_Lhand⟩)
  (c_Lhand : PySem.W.codeIn K cd_Lhand "_law_hand" = true)
  (k_Lhand : PySem.W.keepIn K (.ref f_Lhand) = true)
  (a_Ldraw : PySem.W.nsIn K mainGlobals "_law_draw" = some (some (.ref f_Ldraw)))
  (l_Ldraw : K.lookup f_Ldraw = some ⟨oc_Ldraw, od_Ldraw, .func (PySem.W.fnOf "_law_draw" "_law_draw" (defArgs s_Ldraw) (defBody s_Ldraw) (defScope s_Ldraw) .none kV_Ldraw dc_Ldraw pm_Ldraw an_Ldraw cd_Ldraw ct_Ldraw), sl_Ldraw⟩)
  (c_Ldraw : PySem.W.codeIn K cd_Ldraw "_law_draw" = true)
  (k_Ldraw : PySem.W.keepIn K (.ref f_Ldraw) = true)
  (a_Lwhole : PySem.W.nsIn K mainGlobals "_law_whole" = some (some (.ref f_Lwhole)))
  (l_Lwhole : K.lookup f_Lwhole = some ⟨oc_Lwhole, od_Lwhole, .func (PySem.W.fnOf "_law_whole" "_law_whole" (defArgs s_Lwhole) (defBody s_Lwhole) (defScope s_Lwhole) .none kV_Lwhole dc_Lwhole pm_Lwhole an_Lwhole cd_Lwhole ct_Lwhole), sl_Lwhole⟩)
  (c_Lwhole : PySem.W.codeIn K cd_Lwhole "_law_whole" = true)
  (k_Lwhole : PySem.W.keepIn K (.ref f_Lwhole) = true)
  (a_Lis : PySem.W.nsIn K mainGlobals "_law_is" = some (some (.ref f_Lis)))
  (l_Lis : K.lookup f_Lis = some ⟨oc_Lis, od_Lis, .func (PySem.W.fnOf "_law_is" "_law_is" (defArgs s_Lis) (defBody s_Lis) (defScope s_Lis) .none kV_Lis dc_Lis pm_Lis an_Lis cd_Lis ct_Lis), sl_Lis⟩)
  (c_Lis : PySem.W.codeIn K cd_Lis "_law_is" = true)
  (k_Lis : PySem.W.keepIn K (.ref f_Lis) = true)
  (a_Lwide_sides : PySem.W.nsIn K mainGlobals "_law_wide_sides" = some (some (.ref f_Lwide_sides)))
  (l_Lwide_sides : K.lookup f_Lwide_sides = some ⟨oc_Lwide_sides, od_Lwide_sides, .func (PySem.W.fnOf "_law_wide_sides" "_law_wide_sides" (defArgs s_Lwide_sides) (defBody s_Lwide_sides) (defScope s_Lwide_sides) .none kV_Lwide_sides dc_Lwide_sides pm_Lwide_sides an_Lwide_sides cd_Lwide_sides ct_Lwide_sides), sl_Lwide_sides⟩)
  (c_Lwide_sides : PySem.W.codeIn K cd_Lwide_sides "_law_wide_sides" = true)
  (k_Lwide_sides : PySem.W.keepIn K (.ref f_Lwide_sides) = true)
  (a_Lends : PySem.W.nsIn K mainGlobals "_law_ends" = some (some (.ref f_Lends)))
  (l_Lends : K.lookup f_Lends = some ⟨oc_Lends, od_Lends, .func (PySem.W.fnOf "_law_ends" "_law_ends" (defArgs s_Lends) (defBody s_Lends) (defScope s_Lends) .none kV_Lends dc_Lends pm_Lends an_Lends cd_Lends ct_Lends), sl_Lends⟩)
  (c_Lends : PySem.W.codeIn K cd_Lends "_law_ends" = true)
  (k_Lends : PySem.W.keepIn K (.ref f_Lends) = true)
  (a_Lneat : PySem.W.nsIn K mainGlobals "_law_neat" = some (some (.ref f_Lneat)))
  (l_Lneat : K.lookup f_Lneat = some ⟨oc_Lneat, od_Lneat, .func (PySem.W.fnOf "_law_neat" "_law_neat" (defArgs s_Lneat) (defBody s_Lneat) (defScope s_Lneat) .none kV_Lneat dc_Lneat pm_Lneat an_Lneat cd_Lneat ct_Lneat), sl_Lneat⟩)
  (c_Lneat : PySem.W.codeIn K cd_Lneat "_law_neat" = true)
  (k_Lneat : PySem.W.keepIn K (.ref f_Lneat) = true)
  (a_Lraw_wanted : PySem.W.nsIn K mainGlobals "_law_raw_wanted" = some (some (.ref f_Lraw_wanted)))
  (l_Lraw_wanted : K.lookup f_Lraw_wanted = some ⟨oc_Lraw_wanted, od_Lraw_wanted, .func (PySem.W.fnOf "_law_raw_wanted" "_law_raw_wanted" (defArgs s_Lraw_wanted) (defBody s_Lraw_wanted) (defScope s_Lraw_wanted) .none kV_Lraw_wanted dc_Lraw_wanted pm_Lraw_wanted an_Lraw_wanted cd_Lraw_wanted ct_Lraw_wanted), sl_Lraw_wanted⟩)
  (c_Lraw_wanted : PySem.W.codeIn K cd_Lraw_wanted "_law_raw_wanted" = true)
  (k_Lraw_wanted : PySem.W.keepIn K (.ref f_Lraw_wanted) = true)
  (a_Lneat_wanted : PySem.W.nsIn K mainGlobals "_law_neat_wanted" = some (some (.ref f_Lneat_wanted)))
  (l_Lneat_wanted : K.lookup f_Lneat_wanted = some ⟨oc_Lneat_wanted, od_Lneat_wanted, .func (PySem.W.fnOf "_law_neat_wanted" "_law_neat_wanted" (defArgs s_Lneat_wanted) (defBody s_Lneat_wanted) (defScope s_Lneat_wanted) .none kV_Lneat_wanted dc_Lneat_wanted pm_Lneat_wanted an_Lneat_wanted cd_Lneat_wanted ct_Lneat_wanted), sl_Lneat_wanted⟩)
  (c_Lneat_wanted : PySem.W.codeIn K cd_Lneat_wanted "_law_neat_wanted" = true)
  (k_Lneat_wanted : PySem.W.keepIn K (.ref f_Lneat_wanted) = true)
  (a_Ltruths : PySem.W.nsIn K mainGlobals "_law_truths" = some (some (.ref f_Ltruths)))
  (l_Ltruths : K.lookup f_Ltruths = some ⟨oc_Ltruths, od_Ltruths, .func (PySem.W.fnOf "_law_truths" "_law_truths" (defArgs s_Ltruths) (defBody s_Ltruths) (defScope s_Ltruths) .none kV_Ltruths dc_Ltruths pm_Ltruths an_Ltruths cd_Ltruths ct_Ltruths), sl_Ltruths⟩)
  (c_Ltruths : PySem.W.codeIn K cd_Ltruths "_law_truths" = true)
  (k_Ltruths : PySem.W.keepIn K (.ref f_Ltruths) = true)
  (a_Lgoal_facts : PySem.W.nsIn K mainGlobals "_law_goal_facts" = some (some (.ref f_Lgoal_facts)))
  (l_Lgoal_facts : K.lookup f_Lgoal_facts = some ⟨oc_Lgoal_facts, od_Lgoal_facts, .func (PySem.W.fnOf "_law_goal_facts" "_law_goal_facts" (defArgs s_Lgoal_facts) (defBody s_Lgoal_facts) (defScope s_Lgoal_facts) .none kV_Lgoal_facts dc_Lgoal_facts pm_Lgoal_facts an_Lgoal_facts cd_Lgoal_facts ct_Lgoal_facts), sl_Lgoal_facts⟩)
  (c_Lgoal_facts : PySem.W.codeIn K cd_Lgoal_facts "_law_goal_facts" = true)
  (k_Lgoal_facts : PySem.W.keepIn K (.ref f_Lgoal_facts) = true)
  (a_Lmade : PySem.W.nsIn K mainGlobals "_law_made" = some (some (.ref f_Lmade)))
  (l_Lmade : K.lookup f_Lmade = some ⟨oc_Lmade, od_Lmade, .func (PySem.W.fnOf "_law_made" "_law_made" (defArgs s_Lmade) (defBody s_Lmade) (defScope s_Lmade) .none kV_Lmade dc_Lmade pm_Lmade an_Lmade cd_Lmade ct_Lmade), sl_Lmade⟩)
  (c_Lmade : PySem.W.codeIn K cd_Lmade "_law_made" = true)
  (k_Lmade : PySem.W.keepIn K (.ref f_Lmade) = true)
  (a_Lends_told : PySem.W.nsIn K mainGlobals "_law_ends_told" = some (some (.ref f_Lends_told)))
  (l_Lends_told : K.lookup f_Lends_told = some ⟨oc_Lends_told, od_Lends_told, .func (PySem.W.fnOf "_law_ends_told" "_law_ends_told" (defArgs s_Lends_told) (defBody s_Lends_told) (defScope s_Lends_told) .none kV_Lends_told dc_Lends_told pm_Lends_told an_Lends_told cd_Lends_told ct_Lends_told), sl_Lends_told⟩)
  (c_Lends_told : PySem.W.codeIn K cd_Lends_told "_law_ends_told" = true)
  (k_Lends_told : PySem.W.keepIn K (.ref f_Lends_told) = true)
  (a_Lbad_ladder : PySem.W.nsIn K mainGlobals "_law_bad_ladder" = some (some (.ref f_Lbad_ladder)))
  (l_Lbad_ladder : K.lookup f_Lbad_ladder = some ⟨oc_Lbad_ladder, od_Lbad_ladder, .func (PySem.W.fnOf "_law_bad_ladder" "_law_bad_ladder" (defArgs s_Lbad_ladder) (defBody s_Lbad_ladder) (defScope s_Lbad_ladder) .none kV_Lbad_ladder dc_Lbad_ladder pm_Lbad_ladder an_Lbad_ladder cd_Lbad_ladder ct_Lbad_ladder), sl_Lbad_ladder⟩)
  (c_Lbad_ladder : PySem.W.codeIn K cd_Lbad_ladder "_law_bad_ladder" = true)
  (k_Lbad_ladder : PySem.W.keepIn K (.ref f_Lbad_ladder) = true)
  (a_Lbad_lines : PySem.W.nsIn K mainGlobals "_law_bad_lines" = some (some (.ref f_Lbad_lines)))
  (l_Lbad_lines : K.lookup f_Lbad_lines = some ⟨oc_Lbad_lines, od_Lbad_lines, .func (PySem.W.fnOf "_law_bad_lines" "_law_bad_lines" (defArgs s_Lbad_lines) (defBody s_Lbad_lines) (defScope s_Lbad_lines) .none kV_Lbad_lines dc_Lbad_lines pm_Lbad_lines an_Lbad_lines cd_Lbad_lines ct_Lbad_lines), sl_Lbad_lines⟩)
  (c_Lbad_lines : PySem.W.codeIn K cd_Lbad_lines "_law_bad_lines" = true)
  (k_Lbad_lines : PySem.W.keepIn K (.ref f_Lbad_lines) = true)
  (a_Lbad_ends : PySem.W.nsIn K mainGlobals "_law_bad_ends" = some (some (.ref f_Lbad_ends)))
  (l_Lbad_ends : K.lookup f_Lbad_ends = some ⟨oc_Lbad_ends, od_Lbad_ends, .func (PySem.W.fnOf "_law_bad_ends" "_law_bad_ends" (defArgs s_Lbad_ends) (defBody s_Lbad_ends) (defScope s_Lbad_ends) .none kV_Lbad_ends dc_Lbad_ends pm_Lbad_ends an_Lbad_ends cd_Lbad_ends ct_Lbad_ends), sl_Lbad_ends⟩)
  (c_Lbad_ends : PySem.W.codeIn K cd_Lbad_ends "_law_bad_ends" = true)
  (k_Lbad_ends : PySem.W.keepIn K (.ref f_Lbad_ends) = true)
  (a_Lbad_knows : PySem.W.nsIn K mainGlobals "_law_bad_knows" = some (some (.ref f_Lbad_knows)))
  (l_Lbad_knows : K.lookup f_Lbad_knows = some ⟨oc_Lbad_knows, od_Lbad_knows, .func (PySem.W.fnOf "_law_bad_knows" "_law_bad_knows" (defArgs s_Lbad_knows) (defBody s_Lbad_knows) (defScope s_Lbad_knows) .none kV_Lbad_knows dc_Lbad_knows pm_Lbad_knows an_Lbad_knows cd_Lbad_knows ct_Lbad_knows), sl_Lbad_knows⟩)
  (c_Lbad_knows : PySem.W.codeIn K cd_Lbad_knows "_law_bad_knows" = true)
  (k_Lbad_knows : PySem.W.keepIn K (.ref f_Lbad_knows) = true)
  (a_Lunlike_ends : PySem.W.nsIn K mainGlobals "_law_unlike_ends" = some (some (.ref f_Lunlike_ends)))
  (l_Lunlike_ends : K.lookup f_Lunlike_ends = some ⟨oc_Lunlike_ends, od_Lunlike_ends, .func (PySem.W.fnOf "_law_unlike_ends" "_law_unlike_ends" (defArgs s_Lunlike_ends) (defBody s_Lunlike_ends) (defScope s_Lunlike_ends) .none kV_Lunlike_ends dc_Lunlike_ends pm_Lunlike_ends an_Lunlike_ends cd_Lunlike_ends ct_Lunlike_ends), sl_Lunlike_ends⟩)
  (c_Lunlike_ends : PySem.W.codeIn K cd_Lunlike_ends "_law_unlike_ends" = true)
  (k_Lunlike_ends : PySem.W.keepIn K (.ref f_Lunlike_ends) = true)
  (a_Lrefused : PySem.W.nsIn K mainGlobals "_law_refused" = some (some (.ref f_Lrefused)))
  (l_Lrefused : K.lookup f_Lrefused = some ⟨oc_Lrefused, od_Lrefused, .func (PySem.W.fnOf "_law_refused" "_law_refused" (defArgs s_Lrefused) (defBody s_Lrefused) (defScope s_Lrefused) .none kV_Lrefused dc_Lrefused pm_Lrefused an_Lrefused cd_Lrefused ct_Lrefused), sl_Lrefused⟩)
  (c_Lrefused : PySem.W.codeIn K cd_Lrefused "_law_refused" = true)
  (k_Lrefused : PySem.W.keepIn K (.ref f_Lrefused) = true)
  (a_law : PySem.W.nsIn K mainGlobals "law" = some (some (.ref f_law)))
  (l_law : K.lookup f_law = some ⟨oc_law, od_law, .func (PySem.W.fnOf "law" "law" (defArgs s_law) (defBody s_law) (defScope s_law) .none kV_law dc_law pm_law an_law cd_law ct_law), sl_law⟩)
  (c_law : PySem.W.codeIn K cd_law "law" = true)
  (k_law : PySem.W.keepIn K (.ref f_law) = true)
  (k_CallError : PySem.W.keepIn K (.ref C_CallError) = true)
  (b_CallError : PySem.W.subIn K (.ref C_CallError) (.type "BaseException") = some true)
  (t_CallError : PySem.W.typeIn K (.ref C_CallError) = some (.type "type"))
  (i_CallError : PySem.W.isClsIn K C_CallError = true)
  (s_CallError : PySem.W.subIn K (.ref C_CallError) (.ref C_CallError) = some true)
  (x_CallError : PySem.W.excIn K C_CallError [.type "ValueError", .type "Exception", .type "BaseException", .type "object"] "ValueError.__new__" = true)
  (k_BadGoals : PySem.W.keepIn K (.ref C_BadGoals) = true)
  (b_BadGoals : PySem.W.subIn K (.ref C_BadGoals) (.type "BaseException") = some true)
  (t_BadGoals : PySem.W.typeIn K (.ref C_BadGoals) = some (.type "type"))
  (i_BadGoals : PySem.W.isClsIn K C_BadGoals = true)
  (s_BadGoals : PySem.W.subIn K (.ref C_BadGoals) (.ref C_BadGoals) = some true)
  (x_BadGoals : K.lookup C_BadGoals = some (excClassObj nm_BadGoals qn_BadGoals C_BadGoals N_BadGoals bs_BadGoals [.ref C_CallError, .type "ValueError", .type "Exception", .type "BaseException", .type "object"] true sn_BadGoals sb_BadGoals ab_BadGoals co_BadGoals dd_BadGoals m0_BadGoals m1_BadGoals m2_BadGoals m3_BadGoals m5_BadGoals "ValueError.__new__"))
  (sa_BadGoals : PySem.W.findIn K (.ref C_BadGoals) "__setattr__" = some (some (.builtin "object.__setattr__")))
  (ga_BadGoals : PySem.W.findIn K (.ref C_BadGoals) "__getattribute__" = some (some (.builtin "BaseException.__getattribute__")))
  (gg_BadGoals : PySem.W.findIn K (.ref C_BadGoals) "__getattr__" = some none)
  (hd_BadGoals : PySem.W.hasDictIn K C_BadGoals = true)
  (y_BadGoals : PySem.W.typeIn K (.ref f_BadGoalsu_initu) = some (.type "function"))
  (n_BadGoals_what : PySem.W.findIn K (.ref C_BadGoals) "what" = some none)
  (k_BadCouple : PySem.W.keepIn K (.ref C_BadCouple) = true)
  (b_BadCouple : PySem.W.subIn K (.ref C_BadCouple) (.type "BaseException") = some true)
  (t_BadCouple : PySem.W.typeIn K (.ref C_BadCouple) = some (.type "type"))
  (i_BadCouple : PySem.W.isClsIn K C_BadCouple = true)
  (s_BadCouple : PySem.W.subIn K (.ref C_BadCouple) (.ref C_BadCouple) = some true)
  (x_BadCouple : PySem.W.excIn K C_BadCouple [.type "ValueError", .type "Exception", .type "BaseException", .type "object"] "ValueError.__new__" = true)
  (kp_Goals : PySem.W.keepIn K (.ref C_Goals) = true)
  (pg_Goals : PySem.W.plainGet K C_Goals Str.empty = true)
  (hd_Goals : PySem.W.hasDictIn K C_Goals = true)
  (po_Goals : PySem.W.plainOver K C_Goals = true)
  (sa_Goals : PySem.W.findIn K (.ref C_Goals) "__setattr__" = some (some (.builtin "object.__setattr__")))
  (mk_Goals : PySem.W.makesIn K C_Goals = true)
  (fn_Goalsu_initu : PySem.W.isFn K (.ref f_Goalsu_initu) = true)
  (fn_Goalsu_equ : PySem.W.isFn K (.ref f_Goalsu_equ) = true)
  (fn_Goals_ends_for : PySem.W.isFn K (.ref f_Goals_ends_for) = true)
  (n_Goals_ladder : PySem.W.findIn K (.ref C_Goals) "ladder" = some none)
  (n_Goals_wanted : PySem.W.findIn K (.ref C_Goals) "wanted" = some none)
  (n_Goals_knows : PySem.W.findIn K (.ref C_Goals) "knows" = some none)
  (n_Goals_sides : PySem.W.findIn K (.ref C_Goals) "sides" = some none)
  (z_ValueError : PySem.W.nsIn K mainGlobals "ValueError" = some none)
  (z_abs : PySem.W.nsIn K mainGlobals "abs" = some none)
  (z_all : PySem.W.nsIn K mainGlobals "all" = some none)
  (z_bool : PySem.W.nsIn K mainGlobals "bool" = some none)
  (z_enumerate : PySem.W.nsIn K mainGlobals "enumerate" = some none)
  (z_int : PySem.W.nsIn K mainGlobals "int" = some none)
  (z_isinstance : PySem.W.nsIn K mainGlobals "isinstance" = some none)
  (z_len : PySem.W.nsIn K mainGlobals "len" = some none)
  (z_list : PySem.W.nsIn K mainGlobals "list" = some none)
  (z_min : PySem.W.nsIn K mainGlobals "min" = some none)
  (z_range : PySem.W.nsIn K mainGlobals "range" = some none)
  (z_repr : PySem.W.nsIn K mainGlobals "repr" = some none)
  (z_set : PySem.W.nsIn K mainGlobals "set" = some none)
  (z_sorted : PySem.W.nsIn K mainGlobals "sorted" = some none)
  (z_staticmethod : PySem.W.nsIn K mainGlobals "staticmethod" = some none)
  (z_tuple : PySem.W.nsIn K mainGlobals "tuple" = some none)
  (c_EAST : PySem.W.nsIn K mainGlobals "EAST" = some (some (.int (0) t_EAST)))
  (c_WEST : PySem.W.nsIn K mainGlobals "WEST" = some (some (.int (1) t_WEST)))
  (c_LADDER_MOST : PySem.W.nsIn K mainGlobals "LADDER_MOST" = some (some (.int (6) t_LADDER_MOST)))
  (c_KINDS_MOST : PySem.W.nsIn K mainGlobals "KINDS_MOST" = some (some (.int (6) t_KINDS_MOST)))
  (c_COUPLES_MOST : PySem.W.nsIn K mainGlobals "COUPLES_MOST" = some (some (.int (12) t_COUPLES_MOST)))
  (zz_i_Goals_ca : PySem.W.findIn K (.ref C_Goals) "__class__" = some (some (.builtin "object.__class__")))
  (zz_i_Goals_cn : PySem.W.specialIn K (.builtin "object.__class__") "__get__" = some (some (.builtin "getset_descriptor.__get__")))
  (zz_i_Goals_ct : PySem.W.takesIn K (.builtin "object.__class__") = some true)
  (zz_i_Goals_cm : PySem.W.mroIn K C_Goals (.type "object") = some true)
  (zz_i_Goals_kt : PySem.W.kitOne K (.type "tuple") (.ref C_Goals) = some false)
  (zz_i_Goals_nt : PySem.W.notFirst K C_Goals (.type "tuple") = true)
  (zz_i_Goals_ne : PySem.W.findIn K (.ref C_Goals) "__ne__" = some (some (.builtin "object.__ne__"))) :
    ∃ fd : FuncData, (∀ (s : Shared) (v : Value), BindsTo s fd ⟨[v], []⟩ [("_law_script", v)]) ∧ ∀ base : Heap, K.In base → base.Ns mainGlobals mg → Jv.FnG P w K mg base CX0 9 fa fd ["_law_script"] (sp_law K) := by
  have e : f_law = fa := Value.ref.inj (Option.some.inj ((PySem.W.mg_of X G a_law).symm.trans hfa))
  subst e
  have F_BadGoalsu_initu := fun_mk (st := s_BadGoalsu_initu) l_BadGoalsu_initu c_BadGoalsu_initu k_BadGoalsu_initu
  have F_is_whole : FunD K "is_whole" "is_whole" (defArgs s_is_whole) (defBody s_is_whole) (defScope s_is_whole) [.non, .non] [] f_is_whole (PySem.W.fnOf "is_whole" "is_whole" (defArgs s_is_whole) (defBody s_is_whole) (defScope s_is_whole) (.ref q_is_whole) kV_is_whole dc_is_whole pm_is_whole an_is_whole cd_is_whole ct_is_whole) := ⟨⟨oc_is_whole, od_is_whole, _, kV_is_whole, dc_is_whole, pm_is_whole, an_is_whole, cd_is_whole, ct_is_whole, sl_is_whole, rfl, l_is_whole, c_is_whole, .inr ⟨by simp, q_is_whole, _, [Value.none, Value.none], qn_is_whole, rfl, t_is_whole, rfl, (.cons rfl (.cons rfl .nil))⟩, .inl rfl⟩, k_is_whole⟩
  have F_is_truth := fun_mk (st := s_is_truth) l_is_truth c_is_truth k_is_truth
  have F_is_sequence := fun_mk (st := s_is_sequence) l_is_sequence c_is_sequence k_is_sequence
  have F_are_sides := fun_mk (st := s_are_sides) l_are_sides c_are_sides k_are_sides
  have F_check_couple := fun_mk (st := s_check_couple) l_check_couple c_check_couple k_check_couple
  have F_sides_of_lines := fun_mk (st := s_sides_of_lines) l_sides_of_lines c_sides_of_lines k_sides_of_lines
  have F_are_ends := fun_mk (st := s_are_ends) l_are_ends c_are_ends k_are_ends
  have F_is_knowing := fun_mk (st := s_is_knowing) l_is_knowing c_is_knowing k_is_knowing
  have F_Goalsu_initu : FunD K "__init__" "Goals.__init__" (defArgs s_Goalsu_initu) (defBody s_Goalsu_initu) (defScope s_Goalsu_initu) [(.ref w0_Goalsu_initu)] [] f_Goalsu_initu (PySem.W.fnOf "__init__" "Goals.__init__" (defArgs s_Goalsu_initu) (defBody s_Goalsu_initu) (defScope s_Goalsu_initu) (.ref q_Goalsu_initu) kV_Goalsu_initu dc_Goalsu_initu pm_Goalsu_initu an_Goalsu_initu cd_Goalsu_initu ct_Goalsu_initu) := ⟨⟨oc_Goalsu_initu, od_Goalsu_initu, _, kV_Goalsu_initu, dc_Goalsu_initu, pm_Goalsu_initu, an_Goalsu_initu, cd_Goalsu_initu, ct_Goalsu_initu, sl_Goalsu_initu, rfl, l_Goalsu_initu, c_Goalsu_initu, .inr ⟨by simp, q_Goalsu_initu, _, [Value.ref w0_Goalsu_initu], qn_Goalsu_initu, rfl, t_Goalsu_initu, rfl, (.cons rfl .nil)⟩, .inl rfl⟩, k_Goalsu_initu⟩
  have F_Goalsu_equ := fun_mk (st := s_Goalsu_equ) l_Goalsu_equ c_Goalsu_equ k_Goalsu_equ
  have F_Goals_ends_for := fun_mk (st := s_Goals_ends_for) l_Goals_ends_for c_Goals_ends_for k_Goals_ends_for
  have F_Lmix := fun_mk (st := s_Lmix) l_Lmix c_Lmix k_Lmix
  have F_Lhand := fun_mk (st := s_Lhand) l_Lhand c_Lhand k_Lhand
  have F_Ldraw := fun_mk (st := s_Ldraw) l_Ldraw c_Ldraw k_Ldraw
  have F_Lwhole := fun_mk (st := s_Lwhole) l_Lwhole c_Lwhole k_Lwhole
  have F_Lis := fun_mk (st := s_Lis) l_Lis c_Lis k_Lis
  have F_Lwide_sides := fun_mk (st := s_Lwide_sides) l_Lwide_sides c_Lwide_sides k_Lwide_sides
  have F_Lends := fun_mk (st := s_Lends) l_Lends c_Lends k_Lends
  have F_Lneat := fun_mk (st := s_Lneat) l_Lneat c_Lneat k_Lneat
  have F_Lraw_wanted := fun_mk (st := s_Lraw_wanted) l_Lraw_wanted c_Lraw_wanted k_Lraw_wanted
  have F_Lneat_wanted := fun_mk (st := s_Lneat_wanted) l_Lneat_wanted c_Lneat_wanted k_Lneat_wanted
  have F_Ltruths := fun_mk (st := s_Ltruths) l_Ltruths c_Ltruths k_Ltruths
  have F_Lgoal_facts := fun_mk (st := s_Lgoal_facts) l_Lgoal_facts c_Lgoal_facts k_Lgoal_facts
  have F_Lmade := fun_mk (st := s_Lmade) l_Lmade c_Lmade k_Lmade
  have F_Lends_told := fun_mk (st := s_Lends_told) l_Lends_told c_Lends_told k_Lends_told
  have F_Lbad_ladder := fun_mk (st := s_Lbad_ladder) l_Lbad_ladder c_Lbad_ladder k_Lbad_ladder
  have F_Lbad_lines := fun_mk (st := s_Lbad_lines) l_Lbad_lines c_Lbad_lines k_Lbad_lines
  have F_Lbad_ends := fun_mk (st := s_Lbad_ends) l_Lbad_ends c_Lbad_ends k_Lbad_ends
  have F_Lbad_knows := fun_mk (st := s_Lbad_knows) l_Lbad_knows c_Lbad_knows k_Lbad_knows
  have F_Lunlike_ends := fun_mk (st := s_Lunlike_ends) l_Lunlike_ends c_Lunlike_ends k_Lunlike_ends
  have F_Lrefused := fun_mk (st := s_Lrefused) l_Lrefused c_Lrefused k_Lrefused
  have F_law := fun_mk (st := s_law) l_law c_law k_law
  let T : Tx := {
    f_BadGoalsu_initu := f_BadGoalsu_initu,
    d_BadGoalsu_initu := PySem.W.fnOf "__init__" "BadGoals.__init__" (defArgs s_BadGoalsu_initu) (defBody s_BadGoalsu_initu) (defScope s_BadGoalsu_initu) .none kV_BadGoalsu_initu dc_BadGoalsu_initu pm_BadGoalsu_initu an_BadGoalsu_initu cd_BadGoalsu_initu ct_BadGoalsu_initu,
    f_is_whole := f_is_whole,
    d_is_whole := PySem.W.fnOf "is_whole" "is_whole" (defArgs s_is_whole) (defBody s_is_whole) (defScope s_is_whole) (.ref q_is_whole) kV_is_whole dc_is_whole pm_is_whole an_is_whole cd_is_whole ct_is_whole,
    e1_is_whole := [Value.none],
    e2_is_whole := [Value.none, Value.none],
    f_is_truth := f_is_truth,
    d_is_truth := PySem.W.fnOf "is_truth" "is_truth" (defArgs s_is_truth) (defBody s_is_truth) (defScope s_is_truth) .none kV_is_truth dc_is_truth pm_is_truth an_is_truth cd_is_truth ct_is_truth,
    f_is_sequence := f_is_sequence,
    d_is_sequence := PySem.W.fnOf "is_sequence" "is_sequence" (defArgs s_is_sequence) (defBody s_is_sequence) (defScope s_is_sequence) .none kV_is_sequence dc_is_sequence pm_is_sequence an_is_sequence cd_is_sequence ct_is_sequence,
    f_are_sides := f_are_sides,
    d_are_sides := PySem.W.fnOf "are_sides" "are_sides" (defArgs s_are_sides) (defBody s_are_sides) (defScope s_are_sides) .none kV_are_sides dc_are_sides pm_are_sides an_are_sides cd_are_sides ct_are_sides,
    f_check_couple := f_check_couple,
    d_check_couple := PySem.W.fnOf "check_couple" "check_couple" (defArgs s_check_couple) (defBody s_check_couple) (defScope s_check_couple) .none kV_check_couple dc_check_couple pm_check_couple an_check_couple cd_check_couple ct_check_couple,
    f_sides_of_lines := f_sides_of_lines,
    d_sides_of_lines := PySem.W.fnOf "sides_of_lines" "sides_of_lines" (defArgs s_sides_of_lines) (defBody s_sides_of_lines) (defScope s_sides_of_lines) .none kV_sides_of_lines dc_sides_of_lines pm_sides_of_lines an_sides_of_lines cd_sides_of_lines ct_sides_of_lines,
    f_are_ends := f_are_ends,
    d_are_ends := PySem.W.fnOf "are_ends" "are_ends" (defArgs s_are_ends) (defBody s_are_ends) (defScope s_are_ends) .none kV_are_ends dc_are_ends pm_are_ends an_are_ends cd_are_ends ct_are_ends,
    f_is_knowing := f_is_knowing,
    d_is_knowing := PySem.W.fnOf "is_knowing" "is_knowing" (defArgs s_is_knowing) (defBody s_is_knowing) (defScope s_is_knowing) .none kV_is_knowing dc_is_knowing pm_is_knowing an_is_knowing cd_is_knowing ct_is_knowing,
    f_Goalsu_initu := f_Goalsu_initu,
    d_Goalsu_initu := PySem.W.fnOf "__init__" "Goals.__init__" (defArgs s_Goalsu_initu) (defBody s_Goalsu_initu) (defScope s_Goalsu_initu) (.ref q_Goalsu_initu) kV_Goalsu_initu dc_Goalsu_initu pm_Goalsu_initu an_Goalsu_initu cd_Goalsu_initu ct_Goalsu_initu,
    w0_Goalsu_initu := w0_Goalsu_initu,
    e1_Goalsu_initu := [Value.ref w0_Goalsu_initu],
    f_Goalsu_equ := f_Goalsu_equ,
    d_Goalsu_equ := PySem.W.fnOf "__eq__" "Goals.__eq__" (defArgs s_Goalsu_equ) (defBody s_Goalsu_equ) (defScope s_Goalsu_equ) .none kV_Goalsu_equ dc_Goalsu_equ pm_Goalsu_equ an_Goalsu_equ cd_Goalsu_equ ct_Goalsu_equ,
    f_Goals_ends_for := f_Goals_ends_for,
    d_Goals_ends_for := PySem.W.fnOf "ends_for" "Goals.ends_for" (defArgs s_Goals_ends_for) (defBody s_Goals_ends_for) (defScope s_Goals_ends_for) .none kV_Goals_ends_for dc_Goals_ends_for pm_Goals_ends_for an_Goals_ends_for cd_Goals_ends_for ct_Goals_ends_for,
    f_Lmix := f_Lmix,
    d_Lmix := PySem.W.fnOf "_law_mix" "_law_mix" (defArgs s_Lmix) (defBody s_Lmix) (defScope s_Lmix) .none kV_Lmix dc_Lmix pm_Lmix an_Lmix cd_Lmix ct_Lmix,
    f_Lhand := f_Lhand,
    d_Lhand := PySem.W.fnOf "_law_hand" "_law_hand" (defArgs s_Lhand) (defBody s_Lhand) (defScope s_Lhand) .none kV_Lhand dc_Lhand pm_Lhand an_Lhand cd_Lhand ct_Lhand,
    f_Ldraw := f_Ldraw,
    d_Ldraw := PySem.W.fnOf "_law_draw" "_law_draw" (defArgs s_Ldraw) (defBody s_Ldraw) (defScope s_Ldraw) .none kV_Ldraw dc_Ldraw pm_Ldraw an_Ldraw cd_Ldraw ct_Ldraw,
    f_Lwhole := f_Lwhole,
    d_Lwhole := PySem.W.fnOf "_law_whole" "_law_whole" (defArgs s_Lwhole) (defBody s_Lwhole) (defScope s_Lwhole) .none kV_Lwhole dc_Lwhole pm_Lwhole an_Lwhole cd_Lwhole ct_Lwhole,
    f_Lis := f_Lis,
    d_Lis := PySem.W.fnOf "_law_is" "_law_is" (defArgs s_Lis) (defBody s_Lis) (defScope s_Lis) .none kV_Lis dc_Lis pm_Lis an_Lis cd_Lis ct_Lis,
    f_Lwide_sides := f_Lwide_sides,
    d_Lwide_sides := PySem.W.fnOf "_law_wide_sides" "_law_wide_sides" (defArgs s_Lwide_sides) (defBody s_Lwide_sides) (defScope s_Lwide_sides) .none kV_Lwide_sides dc_Lwide_sides pm_Lwide_sides an_Lwide_sides cd_Lwide_sides ct_Lwide_sides,
    f_Lends := f_Lends,
    d_Lends := PySem.W.fnOf "_law_ends" "_law_ends" (defArgs s_Lends) (defBody s_Lends) (defScope s_Lends) .none kV_Lends dc_Lends pm_Lends an_Lends cd_Lends ct_Lends,
    f_Lneat := f_Lneat,
    d_Lneat := PySem.W.fnOf "_law_neat" "_law_neat" (defArgs s_Lneat) (defBody s_Lneat) (defScope s_Lneat) .none kV_Lneat dc_Lneat pm_Lneat an_Lneat cd_Lneat ct_Lneat,
    f_Lraw_wanted := f_Lraw_wanted,
    d_Lraw_wanted := PySem.W.fnOf "_law_raw_wanted" "_law_raw_wanted" (defArgs s_Lraw_wanted) (defBody s_Lraw_wanted) (defScope s_Lraw_wanted) .none kV_Lraw_wanted dc_Lraw_wanted pm_Lraw_wanted an_Lraw_wanted cd_Lraw_wanted ct_Lraw_wanted,
    f_Lneat_wanted := f_Lneat_wanted,
    d_Lneat_wanted := PySem.W.fnOf "_law_neat_wanted" "_law_neat_wanted" (defArgs s_Lneat_wanted) (defBody s_Lneat_wanted) (defScope s_Lneat_wanted) .none kV_Lneat_wanted dc_Lneat_wanted pm_Lneat_wanted an_Lneat_wanted cd_Lneat_wanted ct_Lneat_wanted,
    f_Ltruths := f_Ltruths,
    d_Ltruths := PySem.W.fnOf "_law_truths" "_law_truths" (defArgs s_Ltruths) (defBody s_Ltruths) (defScope s_Ltruths) .none kV_Ltruths dc_Ltruths pm_Ltruths an_Ltruths cd_Ltruths ct_Ltruths,
    f_Lgoal_facts := f_Lgoal_facts,
    d_Lgoal_facts := PySem.W.fnOf "_law_goal_facts" "_law_goal_facts" (defArgs s_Lgoal_facts) (defBody s_Lgoal_facts) (defScope s_Lgoal_facts) .none kV_Lgoal_facts dc_Lgoal_facts pm_Lgoal_facts an_Lgoal_facts cd_Lgoal_facts ct_Lgoal_facts,
    f_Lmade := f_Lmade,
    d_Lmade := PySem.W.fnOf "_law_made" "_law_made" (defArgs s_Lmade) (defBody s_Lmade) (defScope s_Lmade) .none kV_Lmade dc_Lmade pm_Lmade an_Lmade cd_Lmade ct_Lmade,
    f_Lends_told := f_Lends_told,
    d_Lends_told := PySem.W.fnOf "_law_ends_told" "_law_ends_told" (defArgs s_Lends_told) (defBody s_Lends_told) (defScope s_Lends_told) .none kV_Lends_told dc_Lends_told pm_Lends_told an_Lends_told cd_Lends_told ct_Lends_told,
    f_Lbad_ladder := f_Lbad_ladder,
    d_Lbad_ladder := PySem.W.fnOf "_law_bad_ladder" "_law_bad_ladder" (defArgs s_Lbad_ladder) (defBody s_Lbad_ladder) (defScope s_Lbad_ladder) .none kV_Lbad_ladder dc_Lbad_ladder pm_Lbad_ladder an_Lbad_ladder cd_Lbad_ladder ct_Lbad_ladder,
    f_Lbad_lines := f_Lbad_lines,
    d_Lbad_lines := PySem.W.fnOf "_law_bad_lines" "_law_bad_lines" (defArgs s_Lbad_lines) (defBody s_Lbad_lines) (defScope s_Lbad_lines) .none kV_Lbad_lines dc_Lbad_lines pm_Lbad_lines an_Lbad_lines cd_Lbad_lines ct_Lbad_lines,
    f_Lbad_ends := f_Lbad_ends,
    d_Lbad_ends := PySem.W.fnOf "_law_bad_ends" "_law_bad_ends" (defArgs s_Lbad_ends) (defBody s_Lbad_ends) (defScope s_Lbad_ends) .none kV_Lbad_ends dc_Lbad_ends pm_Lbad_ends an_Lbad_ends cd_Lbad_ends ct_Lbad_ends,
    f_Lbad_knows := f_Lbad_knows,
    d_Lbad_knows := PySem.W.fnOf "_law_bad_knows" "_law_bad_knows" (defArgs s_Lbad_knows) (defBody s_Lbad_knows) (defScope s_Lbad_knows) .none kV_Lbad_knows dc_Lbad_knows pm_Lbad_knows an_Lbad_knows cd_Lbad_knows ct_Lbad_knows,
    f_Lunlike_ends := f_Lunlike_ends,
    d_Lunlike_ends := PySem.W.fnOf "_law_unlike_ends" "_law_unlike_ends" (defArgs s_Lunlike_ends) (defBody s_Lunlike_ends) (defScope s_Lunlike_ends) .none kV_Lunlike_ends dc_Lunlike_ends pm_Lunlike_ends an_Lunlike_ends cd_Lunlike_ends ct_Lunlike_ends,
    f_Lrefused := f_Lrefused,
    d_Lrefused := PySem.W.fnOf "_law_refused" "_law_refused" (defArgs s_Lrefused) (defBody s_Lrefused) (defScope s_Lrefused) .none kV_Lrefused dc_Lrefused pm_Lrefused an_Lrefused cd_Lrefused ct_Lrefused,
    f_law := f_law,
    d_law := PySem.W.fnOf "law" "law" (defArgs s_law) (defBody s_law) (defScope s_law) .none kV_law dc_law pm_law an_law cd_law ct_law,
    C_CallError := C_CallError,
    C_BadGoals := C_BadGoals,
    C_BadCouple := C_BadCouple,
    C_Goals := C_Goals,
    t_EAST := t_EAST,
    t_WEST := t_WEST,
    t_LADDER_MOST := t_LADDER_MOST,
    t_KINDS_MOST := t_KINDS_MOST,
    t_COUPLES_MOST := t_COUPLES_MOST }
  have O : Ok K mg T := {
    F_BadGoalsu_initu := F_BadGoalsu_initu,
    b_BadGoalsu_initu := F_BadGoalsu_initu.binds (ps := ["self", "what"]) fun _ _ _ _ _ _ us hl => match us, hl with | [_, _], _ => rfl,
    F_is_whole := F_is_whole,
    b_is_whole := Jv.bindsD (K := K) (T := q_is_whole) (m := 3) t_is_whole rfl rfl fun us hl => match us, hl with | [_, _, _], _ => ⟨_, rfl, rfl⟩,
    b1_is_whole := ⟨(.cons rfl .nil), Jv.bindsD (K := K) (T := q_is_whole) (m := 2) t_is_whole rfl rfl fun us hl => match us, hl with | [_, _], _ => ⟨_, rfl, rfl⟩⟩,
    b2_is_whole := ⟨(.cons rfl (.cons rfl .nil)), Jv.bindsD (K := K) (T := q_is_whole) (m := 1) t_is_whole rfl rfl fun us hl => match us, hl with | [_], _ => ⟨_, rfl, rfl⟩⟩,
    m_is_whole := PySem.W.mg_of X G a_is_whole,
    F_is_truth := F_is_truth,
    b_is_truth := F_is_truth.binds (ps := ["thing"]) fun _ _ _ _ _ _ us hl => match us, hl with | [_], _ => rfl,
    m_is_truth := PySem.W.mg_of X G a_is_truth,
    F_is_sequence := F_is_sequence,
    b_is_sequence := F_is_sequence.binds (ps := ["thing"]) fun _ _ _ _ _ _ us hl => match us, hl with | [_], _ => rfl,
    m_is_sequence := PySem.W.mg_of X G a_is_sequence,
    F_are_sides := F_are_sides,
    b_are_sides := F_are_sides.binds (ps := ["thing"]) fun _ _ _ _ _ _ us hl => match us, hl with | [_], _ => rfl,
    m_are_sides := PySem.W.mg_of X G a_are_sides,
    F_check_couple := F_check_couple,
    b_check_couple := F_check_couple.binds (ps := ["sides", "couple"]) fun _ _ _ _ _ _ us hl => match us, hl with | [_, _], _ => rfl,
    m_check_couple := PySem.W.mg_of X G a_check_couple,
    F_sides_of_lines := F_sides_of_lines,
    b_sides_of_lines := F_sides_of_lines.binds (ps := ["lines"]) fun _ _ _ _ _ _ us hl => match us, hl with | [_], _ => rfl,
    m_sides_of_lines := PySem.W.mg_of X G a_sides_of_lines,
    F_are_ends := F_are_ends,
    b_are_ends := F_are_ends.binds (ps := ["thing", "ladder"]) fun _ _ _ _ _ _ us hl => match us, hl with | [_, _], _ => rfl,
    m_are_ends := PySem.W.mg_of X G a_are_ends,
    F_is_knowing := F_is_knowing,
    b_is_knowing := F_is_knowing.binds (ps := ["thing"]) fun _ _ _ _ _ _ us hl => match us, hl with | [_], _ => rfl,
    m_is_knowing := PySem.W.mg_of X G a_is_knowing,
    y0_Goalsu_initu := fun _ => .inr ⟨_, _, _, w0_Goalsu_initu_, rfl, rfl, Nat.le_of_ble_eq_true rfl, (.cons rfl (.cons rfl .nil))⟩,
    F_Goalsu_initu := F_Goalsu_initu,
    b_Goalsu_initu := Jv.bindsD (K := K) (T := q_Goalsu_initu) (m := 4) t_Goalsu_initu rfl rfl fun us hl => match us, hl with | [_, _, _, _], _ => ⟨_, rfl, rfl⟩,
    b1_Goalsu_initu := ⟨(.cons rfl .nil), Jv.bindsD (K := K) (T := q_Goalsu_initu) (m := 3) t_Goalsu_initu rfl rfl fun us hl => match us, hl with | [_, _, _], _ => ⟨_, rfl, rfl⟩⟩,
    F_Goalsu_equ := F_Goalsu_equ,
    b_Goalsu_equ := F_Goalsu_equ.binds (ps := ["self", "other"]) fun _ _ _ _ _ _ us hl => match us, hl with | [_, _], _ => rfl,
    F_Goals_ends_for := F_Goals_ends_for,
    b_Goals_ends_for := F_Goals_ends_for.binds (ps := ["self", "couple"]) fun _ _ _ _ _ _ us hl => match us, hl with | [_, _], _ => rfl,
    F_Lmix := F_Lmix,
    b_Lmix := F_Lmix.binds (ps := ["_law_number", "_law_turn"]) fun _ _ _ _ _ _ us hl => match us, hl with | [_, _], _ => rfl,
    m_Lmix := PySem.W.mg_of X G a_Lmix,
    F_Lhand := F_Lhand,
    b_Lhand := F_Lhand.binds (ps := ["_law_script"]) fun _ _ _ _ _ _ us hl => match us, hl with | [_], _ => rfl,
    m_Lhand := PySem.W.mg_of X G a_Lhand,
    F_Ldraw := F_Ldraw,
    b_Ldraw := F_Ldraw.binds (ps := ["_law_hand_here", "_law_many"]) fun _ _ _ _ _ _ us hl => match us, hl with | [_, _], _ => rfl,
    m_Ldraw := PySem.W.mg_of X G a_Ldraw,
    F_Lwhole := F_Lwhole,
    b_Lwhole := F_Lwhole.binds (ps := ["_law_thing"]) fun _ _ _ _ _ _ us hl => match us, hl with | [_], _ => rfl,
    m_Lwhole := PySem.W.mg_of X G a_Lwhole,
    F_Lis := F_Lis,
    b_Lis := F_Lis.binds (ps := ["_law_thing", "_law_due"]) fun _ _ _ _ _ _ us hl => match us, hl with | [_, _], _ => rfl,
    m_Lis := PySem.W.mg_of X G a_Lis,
    F_Lwide_sides := F_Lwide_sides,
    b_Lwide_sides := F_Lwide_sides.binds (ps := ["_law_hand_here"]) fun _ _ _ _ _ _ us hl => match us, hl with | [_], _ => rfl,
    m_Lwide_sides := PySem.W.mg_of X G a_Lwide_sides,
    F_Lends := F_Lends,
    b_Lends := F_Lends.binds (ps := ["_law_hand_here", "_law_ladder"]) fun _ _ _ _ _ _ us hl => match us, hl with | [_, _], _ => rfl,
    m_Lends := PySem.W.mg_of X G a_Lends,
    F_Lneat := F_Lneat,
    b_Lneat := F_Lneat.binds (ps := ["_law_ends_here", "_law_ladder"]) fun _ _ _ _ _ _ us hl => match us, hl with | [_, _], _ => rfl,
    m_Lneat := PySem.W.mg_of X G a_Lneat,
    F_Lraw_wanted := F_Lraw_wanted,
    b_Lraw_wanted := F_Lraw_wanted.binds (ps := ["_law_hand_here", "_law_sides", "_law_ladder"]) fun _ _ _ _ _ _ us hl => match us, hl with | [_, _, _], _ => rfl,
    m_Lraw_wanted := PySem.W.mg_of X G a_Lraw_wanted,
    F_Lneat_wanted := F_Lneat_wanted,
    b_Lneat_wanted := F_Lneat_wanted.binds (ps := ["_law_lines", "_law_ladder"]) fun _ _ _ _ _ _ us hl => match us, hl with | [_, _], _ => rfl,
    m_Lneat_wanted := PySem.W.mg_of X G a_Lneat_wanted,
    F_Ltruths := F_Ltruths,
    b_Ltruths := F_Ltruths.binds (ps := ["_law_hand_here"]) fun _ _ _ _ _ _ us hl => match us, hl with | [_], _ => rfl,
    m_Ltruths := PySem.W.mg_of X G a_Ltruths,
    F_Lgoal_facts := F_Lgoal_facts,
    b_Lgoal_facts := F_Lgoal_facts.binds (ps := ["_law_goals", "_law_ladder", "_law_wanted", "_law_known"]) fun _ _ _ _ _ _ us hl => match us, hl with | [_, _, _, _], _ => rfl,
    m_Lgoal_facts := PySem.W.mg_of X G a_Lgoal_facts,
    F_Lmade := F_Lmade,
    b_Lmade := F_Lmade.binds (ps := ["_law_ladder", "_law_wanted", "_law_known"]) fun _ _ _ _ _ _ us hl => match us, hl with | [_, _, _], _ => rfl,
    m_Lmade := PySem.W.mg_of X G a_Lmade,
    F_Lends_told := F_Lends_told,
    b_Lends_told := F_Lends_told.binds (ps := ["_law_goals", "_law_couple"]) fun _ _ _ _ _ _ us hl => match us, hl with | [_, _], _ => rfl,
    m_Lends_told := PySem.W.mg_of X G a_Lends_told,
    F_Lbad_ladder := F_Lbad_ladder,
    b_Lbad_ladder := F_Lbad_ladder.binds (ps := ["_law_hand_here"]) fun _ _ _ _ _ _ us hl => match us, hl with | [_], _ => rfl,
    m_Lbad_ladder := PySem.W.mg_of X G a_Lbad_ladder,
    F_Lbad_lines := F_Lbad_lines,
    b_Lbad_lines := F_Lbad_lines.binds (ps := ["_law_hand_here", "_law_lines"]) fun _ _ _ _ _ _ us hl => match us, hl with | [_, _], _ => rfl,
    m_Lbad_lines := PySem.W.mg_of X G a_Lbad_lines,
    F_Lbad_ends := F_Lbad_ends,
    b_Lbad_ends := F_Lbad_ends.binds (ps := ["_law_hand_here", "_law_ladder"]) fun _ _ _ _ _ _ us hl => match us, hl with | [_, _], _ => rfl,
    m_Lbad_ends := PySem.W.mg_of X G a_Lbad_ends,
    F_Lbad_knows := F_Lbad_knows,
    b_Lbad_knows := F_Lbad_knows.binds (ps := ["_law_hand_here"]) fun _ _ _ _ _ _ us hl => match us, hl with | [_], _ => rfl,
    m_Lbad_knows := PySem.W.mg_of X G a_Lbad_knows,
    F_Lunlike_ends := F_Lunlike_ends,
    b_Lunlike_ends := F_Lunlike_ends.binds (ps := ["_law_hand_here", "_law_ends_here", "_law_ladder"]) fun _ _ _ _ _ _ us hl => match us, hl with | [_, _, _], _ => rfl,
    m_Lunlike_ends := PySem.W.mg_of X G a_Lunlike_ends,
    F_Lrefused := F_Lrefused,
    b_Lrefused := F_Lrefused.binds (ps := ["_law_hand_here", "_law_sides", "_law_ladder", "_law_lines", "_law_known"]) fun _ _ _ _ _ _ us hl => match us, hl with | [_, _, _, _, _], _ => rfl,
    m_Lrefused := PySem.W.mg_of X G a_Lrefused,
    F_law := F_law,
    b_law := F_law.binds (ps := ["_law_script"]) fun _ _ _ _ _ _ us hl => match us, hl with | [_], _ => rfl,
    m_law := PySem.W.mg_of X G a_law,
    m_CallError := PySem.W.mg_of X G a_CallError,
    e_CallError := ⟨x_CallError, k_CallError, b_CallError, t_CallError, i_CallError, s_CallError⟩,
    m_BadGoals := PySem.W.mg_of X G a_BadGoals,
    x_BadGoals := ⟨⟨⟨nm_BadGoals, qn_BadGoals, N_BadGoals, bs_BadGoals, _, sn_BadGoals, sb_BadGoals, ab_BadGoals, co_BadGoals, dd_BadGoals, m0_BadGoals, m1_BadGoals, m2_BadGoals, m3_BadGoals, m5_BadGoals, x_BadGoals, rfl⟩, sa_BadGoals, b_BadGoals, t_BadGoals, k_BadGoals⟩, a_BadGoalsu_initu, y_BadGoals, i_BadGoals, s_BadGoals, ⟨ga_BadGoals, gg_BadGoals, b_BadGoals, hd_BadGoals⟩⟩,
    n_BadGoals_what := n_BadGoals_what,
    m_BadCouple := PySem.W.mg_of X G a_BadCouple,
    e_BadCouple := ⟨x_BadCouple, k_BadCouple, b_BadCouple, t_BadCouple, i_BadCouple, s_BadCouple⟩,
    m_Goals := PySem.W.mg_of X G a_Goals,
    o_Goals := ⟨pg_Goals, hd_Goals, po_Goals, sa_Goals⟩,
    k_Goals := ⟨mk_Goals, a_Goalsu_initu, fn_Goalsu_initu, kp_Goals⟩,
    h_Goalsu_equ := ⟨a_Goalsu_equ, fn_Goalsu_equ, k_Goalsu_equ⟩,
    h_Goals_ends_for := ⟨a_Goals_ends_for, fn_Goals_ends_for, k_Goals_ends_for⟩,
    n_Goals_ladder := n_Goals_ladder,
    n_Goals_wanted := n_Goals_wanted,
    n_Goals_knows := n_Goals_knows,
    n_Goals_sides := n_Goals_sides,
    z_ValueError := PySem.W.mg_none_of X G z_ValueError,
    z_abs := PySem.W.mg_none_of X G z_abs,
    z_all := PySem.W.mg_none_of X G z_all,
    z_bool := PySem.W.mg_none_of X G z_bool,
    z_enumerate := PySem.W.mg_none_of X G z_enumerate,
    z_int := PySem.W.mg_none_of X G z_int,
    z_isinstance := PySem.W.mg_none_of X G z_isinstance,
    z_len := PySem.W.mg_none_of X G z_len,
    z_list := PySem.W.mg_none_of X G z_list,
    z_min := PySem.W.mg_none_of X G z_min,
    z_range := PySem.W.mg_none_of X G z_range,
    z_repr := PySem.W.mg_none_of X G z_repr,
    z_set := PySem.W.mg_none_of X G z_set,
    z_sorted := PySem.W.mg_none_of X G z_sorted,
    z_staticmethod := PySem.W.mg_none_of X G z_staticmethod,
    z_tuple := PySem.W.mg_none_of X G z_tuple,
    c_EAST := PySem.W.mg_of X G c_EAST,
    c_WEST := PySem.W.mg_of X G c_WEST,
    c_LADDER_MOST := PySem.W.mg_of X G c_LADDER_MOST,
    c_KINDS_MOST := PySem.W.mg_of X G c_KINDS_MOST,
    c_COUPLES_MOST := PySem.W.mg_of X G c_COUPLES_MOST,
    i_Goals_ca := zz_i_Goals_ca,
    i_Goals_cn := zz_i_Goals_cn,
    i_Goals_ct := zz_i_Goals_ct,
    i_Goals_cm := zz_i_Goals_cm,
    i_Goals_kt := zz_i_Goals_kt,
    i_Goals_nt := zz_i_Goals_nt,
    i_Goals_ne := zz_i_Goals_ne,
    kb3_knows_Goalsu_initu := Jv.kbD (K := K) (T := q_Goalsu_initu) t_Goalsu_initu rfl (fun us ws h1 h2 => match us, h1, ws, h2 with | [_, _, _], _, [_], _ => ⟨_, rfl, rfl⟩) fun r1 r2 => (Vals.append r1 r2) }
  exact ⟨T.d_law, fun s v => .of_eq rfl, fun base _ _ => ok_law T O⟩
end K02
open PySem PySem.W PyProof.Rows
set_option maxHeartbeats 0 in
theorem PySem.Challenge.cw_risingcalls_k02_whole_goals_made_and_ref_holds : PySem.Challenge.rw_risingcalls_k02_whole_goals_made_and_ref.Holds := by
  w_on; o_law; k_head; (case hw => w_witness2)
  k_fill
  refine Jv.walkG (l := PySem.Challenge.rw_risingcalls_k02_whole_goals_made_and_ref) (n := 63) (k := 9) (x := "_law_script") (sp := fun w => K02.sp_law _) rfl (by decide) rfl ⟨rfl, by decide, by decide⟩ (fun w h Y => PySem.W.kIn_of Y) ?F (fun _ _ a ns hl _ hS => ⟨a, ns, rfl, hS, hl, fun _ => rfl⟩) (fun _ _ _ _ _ h => h)
  case F =>
    intro w mg fa h KX G hmg
    refine' K02.all_mk KX G hmg ?a_CallError ?a_BadGoals ?a_BadCouple ?a_Goals ?a_BadGoalsu_initu ?l_BadGoalsu_initu ?c_BadGoalsu_initu ?k_BadGoalsu_initu ?a_is_whole ?l_is_whole ?c_is_whole ?k_is_whole ?t_is_whole ?a_is_truth ?l_is_truth ?c_is_truth ?k_is_truth ?a_is_sequence ?l_is_sequence ?c_is_sequence ?k_is_sequence ?a_are_sides ?l_are_sides ?c_are_sides ?k_are_sides ?a_check_couple ?l_check_couple ?c_check_couple ?k_check_couple ?a_sides_of_lines ?l_sides_of_lines ?c_sides_of_lines ?k_sides_of_lines ?a_are_ends ?l_are_ends ?c_are_ends ?k_are_ends ?a_is_knowing ?l_is_knowing ?c_is_knowing ?k_is_knowing ?a_Goalsu_initu ?l_Goalsu_initu ?c_Goalsu_initu ?k_Goalsu_initu ?t_Goalsu_initu ?w0_Goalsu_initu_ ?a_Goalsu_equ ?l_Goalsu_equ ?c_Goalsu_equ ?k_Goalsu_equ ?a_Goals_ends_for ?l_Goals_ends_for ?c_Goals_ends_for ?k_Goals_ends_for ?a_Lmix ?l_Lmix ?c_Lmix ?k_Lmix ?a_Lhand ?l_Lhand ?c_Lhand ?k_Lhand ?a_Ldraw ?l_Ldraw ?c_Ldraw ?k_Ldraw ?a_Lwhole ?l_Lwhole ?c_Lwhole ?k_Lwhole ?a_Lis ?l_Lis ?c_Lis ?k_Lis ?a_Lwide_sides ?l_Lwide_sides ?c_Lwide_sides ?k_Lwide_sides ?a_Lends ?l_Lends ?c_Lends ?k_Lends ?a_Lneat ?l_Lneat ?c_Lneat ?k_Lneat ?a_Lraw_wanted ?l_Lraw_wanted ?c_Lraw_wanted ?k_Lraw_wanted ?a_Lneat_wanted ?l_Lneat_wanted ?c_Lneat_wanted ?k_Lneat_wanted ?a_Ltruths ?l_Ltruths ?c_Ltruths ?k_Ltruths ?a_Lgoal_facts ?l_Lgoal_facts ?c_Lgoal_facts ?k_Lgoal_facts ?a_Lmade ?l_Lmade ?c_Lmade ?k_Lmade ?a_Lends_told ?l_Lends_told ?c_Lends_told ?k_Lends_told ?a_Lbad_ladder ?l_Lbad_ladder ?c_Lbad_ladder ?k_Lbad_ladder ?a_Lbad_lines ?l_Lbad_lines ?c_Lbad_lines ?k_Lbad_lines ?a_Lbad_ends ?l_Lbad_ends ?c_Lbad_ends ?k_Lbad_ends ?a_Lbad_knows ?l_Lbad_knows ?c_Lbad_knows ?k_Lbad_knows ?a_Lunlike_ends ?l_Lunlike_ends ?c_Lunlike_ends ?k_Lunlike_ends ?a_Lrefused ?l_Lrefused ?c_Lrefused ?k_Lrefused ?a_law ?l_law ?c_law ?k_law ?k_CallError ?b_CallError ?t_CallError ?i_CallError ?s_CallError ?x_CallError ?k_BadGoals ?b_BadGoals ?t_BadGoals ?i_BadGoals ?s_BadGoals ?x_BadGoals ?sa_BadGoals ?ga_BadGoals ?gg_BadGoals ?hd_BadGoals ?y_BadGoals ?n_BadGoals_what ?k_BadCouple ?b_BadCouple ?t_BadCouple ?i_BadCouple ?s_BadCouple ?x_BadCouple ?kp_Goals ?pg_Goals ?hd_Goals ?po_Goals ?sa_Goals ?mk_Goals ?fn_Goalsu_initu ?fn_Goalsu_equ ?fn_Goals_ends_for ?n_Goals_ladder ?n_Goals_wanted ?n_Goals_knows ?n_Goals_sides ?z_ValueError ?z_abs ?z_all ?z_bool ?z_enumerate ?z_int ?z_isinstance ?z_len ?z_list ?z_min ?z_range ?z_repr ?z_set ?z_sorted ?z_staticmethod ?z_tuple ?c_EAST ?c_WEST ?c_LADDER_MOST ?c_KINDS_MOST ?c_COUPLES_MOST ?zz_i_Goals_ca ?zz_i_Goals_cn ?zz_i_Goals_ct ?zz_i_Goals_cm ?zz_i_Goals_kt ?zz_i_Goals_nt ?zz_i_Goals_ne
    (case a_CallError => k_is)
    (case a_BadGoals => k_is)
    (case a_BadCouple => k_is)
    (case a_Goals => k_is)
    (case a_BadGoalsu_initu => k_is)
    (case l_BadGoalsu_initu => k_is)
    (case c_BadGoalsu_initu => k_is)
    (case k_BadGoalsu_initu => k_is)
    (case a_is_whole => k_is)
    (case l_is_whole => k_is)
    (case c_is_whole => k_is)
    (case k_is_whole => k_is)
    (case t_is_whole => k_is)
    (case a_is_truth => k_is)
    (case l_is_truth => k_is)
    (case c_is_truth => k_is)
    (case k_is_truth => k_is)
    (case a_is_sequence => k_is)
    (case l_is_sequence => k_is)
    (case c_is_sequence => k_is)
    (case k_is_sequence => k_is)
    (case a_are_sides => k_is)
    (case l_are_sides => k_is)
    (case c_are_sides => k_is)
    (case k_are_sides => k_is)
    (case a_check_couple => k_is)
    (case l_check_couple => k_is)
    (case c_check_couple => k_is)
    (case k_check_couple => k_is)
    (case a_sides_of_lines => k_is)
    (case l_sides_of_lines => k_is)
    (case c_sides_of_lines => k_is)
    (case k_sides_of_lines => k_is)
    (case a_are_ends => k_is)
    (case l_are_ends => k_is)
    (case c_are_ends => k_is)
    (case k_are_ends => k_is)
    (case a_is_knowing => k_is)
    (case l_is_knowing => k_is)
    (case c_is_knowing => k_is)
    (case k_is_knowing => k_is)
    (case a_Goalsu_initu => k_is)
    (case l_Goalsu_initu => k_is)
    (case c_Goalsu_initu => k_is)
    (case k_Goalsu_initu => k_is)
    (case t_Goalsu_initu => k_is)
    (case w0_Goalsu_initu_ => k_is)
    (case a_Goalsu_equ => k_is)
    (case l_Goalsu_equ => k_is)
    (case c_Goalsu_equ => k_is)
    (case k_Goalsu_equ => k_is)
    (case a_Goals_ends_for => k_is)
    (case l_Goals_ends_for => k_is)
    (case c_Goals_ends_for => k_is)
    (case k_Goals_ends_for => k_is)
    (case a_Lmix => k_is)
    (case l_Lmix => k_is)
    (case c_Lmix => k_is)
    (case k_Lmix => k_is)
    (case a_Lhand => k_is)
    (case l_Lhand => k_is)
    (case c_Lhand => k_is)
    (case k_Lhand => k_is)
    (case a_Ldraw => k_is)
    (case l_Ldraw => k_is)
    (case c_Ldraw => k_is)
    (case k_Ldraw => k_is)
    (case a_Lwhole => k_is)
    (case l_Lwhole => k_is)
    (case c_Lwhole => k_is)
    (case k_Lwhole => k_is)
    (case a_Lis => k_is)
    (case l_Lis => k_is)
    (case c_Lis => k_is)
    (case k_Lis => k_is)
    (case a_Lwide_sides => k_is)
    (case l_Lwide_sides => k_is)
    (case c_Lwide_sides => k_is)
    (case k_Lwide_sides => k_is)
    (case a_Lends => k_is)
    (case l_Lends => k_is)
    (case c_Lends => k_is)
    (case k_Lends => k_is)
    (case a_Lneat => k_is)
    (case l_Lneat => k_is)
    (case c_Lneat => k_is)
    (case k_Lneat => k_is)
    (case a_Lraw_wanted => k_is)
    (case l_Lraw_wanted => k_is)
    (case c_Lraw_wanted => k_is)
    (case k_Lraw_wanted => k_is)
    (case a_Lneat_wanted => k_is)
    (case l_Lneat_wanted => k_is)
    (case c_Lneat_wanted => k_is)
    (case k_Lneat_wanted => k_is)
    (case a_Ltruths => k_is)
    (case l_Ltruths => k_is)
    (case c_Ltruths => k_is)
    (case k_Ltruths => k_is)
    (case a_Lgoal_facts => k_is)
    (case l_Lgoal_facts => k_is)
    (case c_Lgoal_facts => k_is)
    (case k_Lgoal_facts => k_is)
    (case a_Lmade => k_is)
    (case l_Lmade => k_is)
    (case c_Lmade => k_is)
    (case k_Lmade => k_is)
    (case a_Lends_told => k_is)
    (case l_Lends_told => k_is)
    (case c_Lends_told => k_is)
    (case k_Lends_told => k_is)
    (case a_Lbad_ladder => k_is)
    (case l_Lbad_ladder => k_is)
    (case c_Lbad_ladder => k_is)
    (case k_Lbad_ladder => k_is)
    (case a_Lbad_lines => k_is)
    (case l_Lbad_lines => k_is)
    (case c_Lbad_lines => k_is)
    (case k_Lbad_lines => k_is)
    (case a_Lbad_ends => k_is)
    (case l_Lbad_ends => k_is)
    (case c_Lbad_ends => k_is)
    (case k_Lbad_ends => k_is)
    (case a_Lbad_knows => k_is)
    (case l_Lbad_knows => k_is)
    (case c_Lbad_knows => k_is)
    (case k_Lbad_knows => k_is)
    (case a_Lunlike_ends => k_is)
    (case l_Lunlike_ends => k_is)
    (case c_Lunlike_ends => k_is)
    (case k_Lunlike_ends => k_is)
    (case a_Lrefused => k_is)
    (case l_Lrefused => k_is)
    (case c_Lrefused => k_is)
    (case k_Lrefused => k_is)
    (case a_law => k_is)
    (case l_law => k_is)
    (case c_law => k_is)
    (case k_law => k_is)
    (case k_CallError => k_is)
    (case b_CallError => k_is)
    (case t_CallError => k_is)
    (case i_CallError => k_is)
    (case s_CallError => first | rfl | k_is)
    (case x_CallError => k_exc)
    (case k_BadGoals => k_is)
    (case b_BadGoals => k_is)
    (case t_BadGoals => k_is)
    (case i_BadGoals => k_is)
    (case s_BadGoals => first | rfl | k_is)
    (case x_BadGoals => k_is)
    (case sa_BadGoals => k_is)
    (case ga_BadGoals => k_is)
    (case gg_BadGoals => k_is)
    (case hd_BadGoals => k_is)
    (case y_BadGoals => k_is)
    (case n_BadGoals_what => k_is)
    (case k_BadCouple => k_is)
    (case b_BadCouple => k_is)
    (case t_BadCouple => k_is)
    (case i_BadCouple => k_is)
    (case s_BadCouple => first | rfl | k_is)
    (case x_BadCouple => k_exc)
    (case kp_Goals => k_is)
    (case pg_Goals => k_is)
    (case hd_Goals => k_is)
    (case po_Goals => k_is)
    (case sa_Goals => k_is)
    (case mk_Goals => k_is)
    (case fn_Goalsu_initu => k_is)
    (case fn_Goalsu_equ => k_is)
    (case fn_Goals_ends_for => k_is)
    (case n_Goals_ladder => k_is)
    (case n_Goals_wanted => k_is)
    (case n_Goals_knows => k_is)
    (case n_Goals_sides => k_is)
    (case z_ValueError => k_is)
    (case z_abs => k_is)
    (case z_all => k_is)
    (case z_bool => k_is)
    (case z_enumerate => k_is)
    (case z_int => k_is)
    (case z_isinstance => k_is)
    (case z_len => k_is)
    (case z_list => k_is)
    (case z_min => k_is)
    (case z_range => k_is)
    (case z_repr => k_is)
    (case z_set => k_is)
    (case z_sorted => k_is)
    (case z_staticmethod => k_is)
    (case z_tuple => k_is)
    (case c_EAST => k_is)
    (case c_WEST => k_is)
    (case c_LADDER_MOST => k_is)
    (case c_KINDS_MOST => k_is)
    (case c_COUPLES_MOST => k_is)
    (case zz_i_Goals_ca => k_is)
    (case zz_i_Goals_cn => k_is)
    (case zz_i_Goals_ct => k_is)
    (case zz_i_Goals_cm => k_is)
    (case zz_i_Goals_kt => first | rfl | kernel_rfl)
    (case zz_i_Goals_nt => k_is)
    (case zz_i_Goals_ne => k_is)

