import PyProof.Rows.All
import Wide.All
import OpenK.AllK
import Wide.FinOn
import PyProof.EqAt
import PyProof.EqKinds
import PyProof.TupleCall
import HandS.ForMost
import HandS.ForExc
import HandS.Wide
import HandS.IsInst
import HandS.SortInts
import HandS.Strs
import HandS.SetFor
import HandS.Conv
import HandS.Small
import HandS.Defaults
import HandS.Walk
import HandS.Flow
import HandS.Codes
import HandS.ExcInit
import HandS.ExcField
import PySem.Challenge.RW_risingcalls_k01_whole_basics_by_all_smal
set_option Elab.async false
set_option linter.all false
set_option maxRecDepth 100000
set_option maxHeartbeats 2000000

/-! ### my words for readings: one lemma a construct, by the head of the reading -/
namespace Jv
open PySem PySem.Spec PyProof.Rows L2
section
variable {K : PySem.W.Frag} {σ : L2.St} {H : Hp} {D : Ends} {t u : TS} {te ta tb tc : TE} {g : TG} {tt tu : TT} {tA : TA} {i : Nat} {v x y z : V} {Q : VK} {R : Bool → Hp → Prop}
theorem r_seq (h : t { D with nx := u D } σ H) : tSeq t u D σ H := h
theorem r_asg (h : te σ H fun x H1 => g x σ H1 D.nx) : tAsg te g D σ H := h
theorem r_gn {Q : L2.St → Hp → Prop} (h : Q (σ.set i (some v)) H) : gName i v σ H Q := h
theorem r_ret (h : te σ H D.rt) : tRet te D σ H := h
theorem r_retN (h : D.rt .non H) : tRetN D σ H := h
theorem r_drop (h : te σ H fun _ H1 => D.nx σ H1) : tDrop te D σ H := h
theorem r_if (h : tt σ H fun b H1 => if b = true then t D σ H1 else u D σ H1) : tIfS tt t u D σ H := h
theorem r_next (h : D.nx σ H) : tNext D σ H := h
theorem r_brk (h : D.bk σ H) : tBreak D σ H := h
theorem r_cont (h : D.ct σ H) : tCont D σ H := h
theorem r_var (h : σ[i]? = some (some v)) (q : Q v H) : tVar i σ H Q := ⟨v, h, q⟩
theorem r_c (q : Q v H) : tC v σ H Q := q
theorem r_op {r : R2} (h : ta σ H fun x H1 => tb σ H1 fun y H2 => r x y H2 Q) : tOp r ta tb σ H Q := h
theorem r_un {r : V → Hp → VK → Prop} (h : ta σ H fun x H1 => r x H1 Q) : tUn r ta σ H Q := h
theorem r_I {C : Int → Int → Prop} {f : Int → Int → V} {a b : Int} (c : C a b) (q : Q (f a b) H) : rI C f (.int a) (.int b) H Q := ⟨a, b, rfl, rfl, c, q⟩
theorem r_I0 {f : Int → Int → V} {a b : Int} (q : Q (f a b) H) : rI0 f (.int a) (.int b) H Q := ⟨a, b, rfl, rfl, q⟩
theorem r_U {f : Int → V} {a : Int} (q : Q (f a) H) : rU f (.int a) H Q := ⟨a, rfl, q⟩
theorem r_eq (s : scal x y = true) (q : Q (.bl (decide (x = y))) H) : rEq x y H Q := ⟨s, q⟩
theorem r_ne (s : scal x y = true) (q : Q (.bl (!decide (x = y))) H) : rNe x y H Q := ⟨s, q⟩
theorem r_test (h : te σ H fun x H1 => ∃ k, x = .bl k ∧ R k H1) : tTest te σ H R := h
theorem r_B (h : te σ H fun x H1 => ∃ k, x = .bl k ∧ R k H1) : tB te σ H R := h
theorem r_bl {b : Bool} {P : Bool → Prop} (q : P b) : ∃ k, V.bl b = .bl k ∧ P k := ⟨b, rfl, q⟩
theorem r_and (h : tt σ H fun c H1 => if c = true then tu σ H1 R else R false H1) : tAnd tt tu σ H R := h
theorem r_or (h : tt σ H fun c H1 => if c = true then R true H1 else tu σ H1 R) : tOr tt tu σ H R := h
theorem r_not (h : tt σ H fun c H1 => R (!c) H1) : tNot tt σ H R := h
theorem r_andV (h : ta σ H fun x H1 => ∃ c, x = .bl c ∧ if c = true then tb σ H1 Q else Q (.bl false) H1) : tAndV ta tb σ H Q := h
theorem r_orV (h : ta σ H fun x H1 => ∃ c, x = .bl c ∧ if c = true then Q (.bl true) H1 else tb σ H1 Q) : tOrV ta tb σ H Q := h
theorem r_notV (h : ta σ H fun x H1 => ∃ c, x = .bl c ∧ Q (.bl (!c)) H1) : tNotV ta σ H Q := h
theorem r_ife (h : tt σ H fun c H1 => if c = true then ta σ H1 Q else tb σ H1 Q) : tIf tt ta tb σ H Q := h
theorem r_chain {r r' : R2} (h : ta σ H fun x H1 => tb σ H1 fun y H2 => r x y H2 fun z H3 => ∃ k, z = .bl k ∧
  (if k = true then tc σ H3 fun w' H4 => r' y w' H4 Q else Q (.bl false) H3)) : tChain r r' ta tb tc σ H Q := h
theorem r_nil {P : List V → Hp → Prop} (q : P [] H) : tNil σ H P := q
theorem r_cons {P : List V → Hp → Prop} (h : ta σ H fun x H1 => tA σ H1 fun xs H2 => P (x :: xs) H2) : tCons ta tA σ H P := h
theorem r_tup (h : tA σ H fun xs H1 => xs.length ≤ sizeLine ∧ ∀ p, H1 p = none → Q (.ref p) (upd H1 p (.tup xs))) : tTup tA σ H Q := h
theorem r_lst (h : tA σ H fun xs H1 => xs.length ≤ sizeLine ∧ ∀ p, H1 p = none → Q (.ref p) (upd H1 p (.lst xs))) : tLst tA σ H Q := h
theorem r_new {n : Nat} {P : Prop} (h1 : n ≤ 1000) (q : P) : n ≤ sizeLine ∧ P := ⟨Nat.le_trans h1 (by decide), q⟩
theorem r_CB {r : List V → Hp → VK → Prop} (h : tA σ H fun vs H1 => r vs H1 Q) : tCB r tA σ H Q := h
theorem r_call {sp : Sp} {dvs : List V} {E : XK} (h : tA σ H fun vs H1 => sp (vs ++ dvs) H1 Q E) : tCall sp dvs E tA σ H Q := h
theorem r_callS {sp : Sp} {E : L2.St → XK} (h : tA σ H fun vs H1 => sp vs H1 Q (E σ)) : tCallS sp E tA σ H Q := h
theorem r_for {wi : TI} (h : wi σ H fun J H1 => ∃ W : Nat → Nat → L2.St → Hp → Prop, (∃ m, W 0 m σ H1) ∧ ∀ i m σ H, W i m σ H →
  (J.stop i H ∧ D.nx σ H) ∨ (J.go i H ∧ ∃ N : L2.St → Hp → Prop, (∀ σ' H', N σ' H' → ∃ m', m' < m ∧ W (i + 1) m' σ' H') ∧ ∀ x H', J.yld i H x H' → g x σ H' fun σ2 H2 => t { D with nx := N, ct := N, bk := D.nx } σ2 H2)) : tFor wi g t D σ H := h
theorem r_iR1 {P : It → Hp → Prop} (h : tA σ H fun vs H1 => ∃ j : Int, vs = [.int j] ∧ -(2 ^ 62) ≤ j ∧ j < 2 ^ 62 ∧ P (Itr 0 j.toNat) H1) : iRng1 tA σ H P := h
theorem r_iR2 {P : It → Hp → Prop} (h : tA σ H fun vs H1 => ∃ i j : Int, vs = [.int i, .int j] ∧ (-(2 ^ 62) ≤ i ∧ i < 2 ^ 62 ∧ -(2 ^ 62) ≤ j ∧ j < 2 ^ 62) ∧ P (Itr i (j - i).toNat) H1) : iRng2 tA σ H P := h
theorem r_sub {to ti : TE} {w : TSet} {Q : L2.St → Hp → Prop} (h : to σ H fun o H1 => ti σ H1 fun i H2 => w o i v H2 fun H3 => Q σ H3) : gSub to ti w v σ H Q := h
theorem r_ixL {p : Addr} {xs : List V} {k : Int} (h : SqL K H p xs) (e : atI xs k = some v) (q : Q v H) : rIxL K (.ref p) (.int k) H Q := ⟨p, xs, k, v, rfl, rfl, h, e, q⟩
theorem r_ixT {p : Addr} {xs : List V} {k : Int} (h : SqT K H p xs) (e : atI xs k = some v) (q : Q v H) : rIxT K (.ref p) (.int k) H Q := ⟨p, xs, k, v, rfl, rfl, h, e, q⟩
theorem r_setL {p : Addr} {xs : List V} {k : Int} {j : Nat} {P : Hp → Prop} (h : H p = some (.lst xs)) (e : ixN xs.length k = some j) (q : P (upd H p (.lst (xs.set j v)))) : rSetL (.ref p) (.int k) v H P := ⟨p, xs, k, j, rfl, rfl, h, e, q⟩
theorem r_true {A B : Prop} {c : Bool} (e : c = true) (h : A) : if c = true then A else B := by rw [if_pos e]; exact h
theorem r_false {A B : Prop} {c : Bool} (e : c = false) (h : B) : if c = true then A else B := by rw [e, if_neg Bool.false_ne_true]; exact h
theorem r_dec {A B p : Prop} {_ : Decidable p} (h1 : p → A) (h2 : ¬ p → B) : if decide p = true then A else B := by
  by_cases h : p
  · exact r_true (decide_eq_true h) (h1 h)
  · exact r_false (decide_eq_false h) (h2 h)
theorem r_ndec {A B p : Prop} {_ : Decidable p} (h1 : ¬ p → A) (h2 : p → B) : if (!decide p) = true then A else B := by
  by_cases h : p
  · exact r_false (by rw [decide_eq_true h]; rfl) (h2 h)
  · exact r_true (by rw [decide_eq_false h]; rfl) (h1 h)
theorem r_bool {A B : Prop} {c : Bool} (h1 : c = true → A) (h2 : c = false → B) : if c = true then A else B := by
  cases c
  · exact r_false rfl (h2 rfl)
  · exact r_true rfl (h1 rfl)
theorem r_int {a : Int} {P : Int → Prop} {P' : Bool → Prop} (q : P a) : (∃ i, [V.int a] = [.int i] ∧ P i) ∨ ∃ k, [V.int a] = [.bl k] ∧ P' k := .inl ⟨a, rfl, q⟩
theorem small_of {n : Nat} (h : n ≤ 1000) : n ≤ sizeLine := Nat.le_trans h (by decide)
theorem small_lt {n : Nat} (h : n < 1000) : n < sizeLine := Nat.lt_of_lt_of_le h (by decide)
/-- what stands ahead of a new object, stands behind it -/
theorem kp {a p : Addr} {o u : HO} (h : H a = some o) (n : H p = none) : upd H p u a = some o := by rw [upd_ne (ne_of_none h n)]; exact h
theorem kpO {a l : Addr} {o u : HO} (h : H a = some o) (n : a ≠ l) : upd H l u a = some o := by rw [upd_ne n]; exact h
theorem same_new {p : Addr} {u : HO} (n : H p = none) : Same H (upd H p u) := fun _ _ e => kp e n
theorem Same.sqT {H' : Hp} {a : Addr} {xs : List V} (e : Same H H') (h : SqT K H a xs) : SqT K H' a xs := by
  rcases h with (h | ⟨o, h⟩) | h
  · exact .inl (.inl (e _ _ h))
  · exact .inl (.inr ⟨o, e _ _ h⟩)
  · exact .inr h
end
end Jv

/-! ### rules that the layer lacks: set(x), sorted(x) of a list or a tuple of ints; X() of an own exception; what the top says of exceptions -/
namespace JvS
open PySem PySem.Spec PyProof.Rows L2 SrtO
section
variable {P : Program} {w : World} {A : Around} {E : Value → Shared → Prop} {s : Shared}
/-- the empty set that set() begins with -/
abbrev emptyS (w : World) : Obj := { cls := .type "set", dict := none, data := .set #[] 0 (.fresh 0 0 (!w.params.followText "set-order")) }
theorem set_listI {l : Addr} {items : Array Value} (ns : List Int) {Q : Value → Shared → Prop} (hh : A.handled = none) (hl : s.heap.IsList l items) (hv : IntsAre items.toList ns) (few : ns.length + 1 < scanBound)
    (h : ∀ (h' : Heap) (tk c : Nat), SetR w h' s.heap.objs.size (fun j => decide (j ∈ ns)) c → c ≤ ns.length → (∀ b o, s.heap.get? b = some o → h'.get? b = some o) → Q (.ref s.heap.objs.size) { s with heap := h', toks := tk }) :
    wpAny (model P w) A (call (.type "set") [.ref l]) Q E s := by
  have sz : items.size = ns.length := by simpa using IntsAre.length hv
  obtain ⟨cM, tM, eM⟩ := F.called_set.mro
  have e1 := F.called_set.made; have e2 := F.called_set.sub; have e3 := F.called_set.notType; have e4 := F.called_set.canCreate; have e5 := F.typeCall_set_1 (.ref l)
  refine wpAny_call (codeAny_of_tree (show wpAny _ _ (callAny (.type "set") _) _ _ _ from wpAny_pure ⟨Code.quiet_builtin _ (by decide +kernel), codeAny_builtin F.entry_type_call ?_⟩))
  rw [Around.under_plain (weight_type_call_type "set" [.ref l] []) rfl]
  repeat any_goals (first | wp_step | assumption)
  refine codeAny_mono (code_set_led1 (P := P) (.ref l) (E := E) (Q₁ := fun v s1 => v = .ref s.heap.objs.size ∧ s1 = { s with heap := s.heap.push (emptyS w) }) ⟨rfl, rfl⟩) fun r s1 hr => ?_
  cases r with
  | error e => exact hr
  | ok fl =>
    cases fl with
    | next => exact hr.elim
    | brk => exact hr.elim
    | cont => exact hr.elim
    | ret v =>
      obtain ⟨rfl, rfl⟩ := hr
      have atS : (s.heap.push (emptyS w)).get? s.heap.objs.size = some (emptyS w) := Heap.get?_push_size _ rfl
      have tyS : Shared.TypeIs { s with heap := s.heap.push (emptyS w) } (.ref s.heap.objs.size) "set" := ⟨_, atS, rfl⟩
      have e6 := F.called_set.init.lookup; have e7 := F.called_set.init.bind (.ref s.heap.objs.size)
      repeat any_goals (first | wp_step | assumption)
      refine codeAny_mono (codeAny_call_builtin (R := wants (fun r s2 => r = .none ∧ ∃ h' tk c, s2 = { s with heap := h', toks := tk } ∧ SetR w h' s.heap.objs.size (fun j => decide (j ∈ ns)) c ∧ c ≤ ns.length ∧
        ∀ b o, s.heap.get? b = some o → h'.get? b = some o) E) F.called_set.init.plain F.entry_set_init (check_set_init_1 tyS ?_)) fun r2 s2 hr2 => ?_
      · have old : ∀ b o, s.heap.get? b = some o → (s.heap.push (emptyS w)).get? b = some o := fun b o q => Heap.get?_push_of_some _ q
        have lS : l < s.heap.objs.size := by obtain ⟨o, q, _⟩ := hl; exact Heap.lt_size q
        obtain ⟨⟨oc, od, dt, sl⟩, ol, q1, n1, q2⟩ := hl
        simp only at q1 q2; subst q1 q2
        have ol2 := old _ _ ol
        have isl : (s.heap.push (emptyS w)).IsList l items := ⟨_, ol2, rfl, n1, rfl⟩
        have b1 := F.sub_list_set; have b2 := F.sub_list_frozenset; have b3 : (Value.type "list" == Value.type "dict") = false := by decide
        unfold Builtin.«set.__init__» noKeywords Builtin.Frozenset.updateFrom
        generalize walkIt : pyIter = PI
        wp_walk
        subst walkIt
        refine wpAny_pyIter_list isl (wpAny_bind (wpAny_runValue ?_))
        have more : (s.heap.push (emptyS w)).objs.size = s.heap.objs.size + 1 := Heap.size_push ..
        have hh3 : A.in1.in1.in1.handled = none := by simp [hh]
        have lI : l ≠ (s.heap.push (emptyS w)).objs.size := by rw [more]; exact Nat.ne_of_lt (Nat.lt_succ_of_lt lS)
        have nS : s.heap.objs.size ∉ [(s.heap.push (emptyS w)).objs.size, l] := by
          rw [more]; simp only [List.mem_cons, List.not_mem_nil, or_false, not_or]
          exact ⟨Nat.ne_of_lt (Nat.lt_succ_self _), Nat.ne_of_gt lS⟩
        refine set_update_ints ((Walks.list hh3 _ l lI items).toS) s.heap.objs.size nS ns sz few (fun i v q => ?_) (items.size - 0) 0 _ (by omega) (Nat.zero_le _) ⟨⟨_, Heap.get?_push_size _ rfl, rfl, rfl⟩, isl.push _⟩ ⟨0, Nat.le_refl 0, setR_new_at (Heap.get?_push_of_some _ atS)⟩ fun s3 c hm hc hS => ?_
        · have hi : i < ns.length := by rw [← sz]; exact (Array.getElem?_eq_some_iff.mp q).1
          obtain ⟨t, e⟩ := PyProof.Rows.IntsAre.int_at hv i v (by rw [Array.getElem?_toList]; exact q)
          exact ⟨ns[i], t, List.getElem?_eq_getElem hi, by rw [e, List.getD_eq_getElem?_getD, List.getElem?_eq_getElem hi]; rfl⟩
        · obtain ⟨h3, g3, d3, t3, o3⟩ := s3
          obtain rfl : g3 = s.gens := hm.gens
          obtain rfl : d3 = s.drawn := hm.drawn
          obtain rfl : o3 = s.os := hm.os
          rw [sz] at hc
          refine wpAny_pure (show wpAny _ _ (ret Value.none) _ _ _ from wpAny_pure ⟨rfl, h3, t3, c, rfl, hS, hc, fun b o e => ?_⟩)
          have lb : b < s.heap.objs.size := Heap.lt_size e
          exact hm.heap b o (by
            rw [more]; simp only [List.mem_cons, List.not_mem_nil, or_false, not_or]
            exact ⟨Nat.ne_of_lt lb, Nat.ne_of_lt (Nat.lt_succ_of_lt lb)⟩) (Heap.get?_push_of_some _ (old _ _ e))
      · cases r2 with
        | error e => exact hr2
        | ok f2 =>
          cases f2 with
          | next => exact hr2.elim
          | brk => exact hr2.elim
          | cont => exact hr2.elim
          | ret r =>
            obtain ⟨rfl, h', tk, c, rfl, hS, hc, keep⟩ := hr2
            repeat any_goals (first | wp_step | assumption)
            exact h _ _ _ hS hc keep
end
end JvS
namespace Jv
open PySem PySem.Spec PyProof.Rows L2
section
variable {X : Cx}
/-- set(x), x a list or a tuple of ints -/
def rSetI (K : PySem.W.Frag) (w : World) : List V → Hp → VK → Prop := fun xs H Q => ∃ (l : Addr) (ns : List Int), xs = [.ref l] ∧ (SqL K H l (ns.map V.int) ∨ SqT K H l (ns.map V.int)) ∧ ns.length ≤ 1000 ∧
  ∀ p c, H p = none → c ≤ ns.length → Q (.ref p) (upd H p (SetO w p (fun j => decide (j ∈ ns)) c))
theorem cr_setI (hc : X.calm = true) : CallR X (.type "set") (rSetI X.K X.w) := by
  intro pins s σ H xs us Q I r h
  obtain ⟨l, ns, rfl, hs, few, q⟩ := h
  rw [Vals.ref1 r]
  have fin : ∀ (h' : Heap) (tk c : Nat), SetR X.w h' s.heap.objs.size (fun j => decide (j ∈ ns)) c → c ≤ ns.length → (∀ b o, s.heap.get? b = some o → h'.get? b = some o) →
      EP X pins σ Q (.ref s.heap.objs.size) { s with heap := h', toks := tk } := fun h' tk c R hcn keep =>
    ⟨.ref s.heap.objs.size, upd H s.heap.objs.size (SetO X.w s.heap.objs.size (fun j => decide (j ∈ ns)) c), I.laid (t' := tk) keep (Nat.le_refl _) (setO_new R), rfl, q _ c (I.hok.fresh (Nat.le_refl _)) hcn⟩
  rcases hs with hs | hs
  · obtain ⟨its, rv, hl, hz⟩ := I.list hs
    exact JvS.set_listI ns (I.ok.hd hc) hl.isList (by simpa using ints_of_vals rv) (by unfold scanBound; omega) fin
  · obtain ⟨its, rv, ht, hz⟩ := I.tuple hs
    exact call_set_tupI ns (I.ok.hd hc) (show s.heap.IsTuple l its.toArray from ht) (by simpa using ints_of_vals rv) (by unfold scanBound; omega) fin
/-- either of two rules for a call -/
theorem crOr {f : Value} {r r' : List V → Hp → VK → Prop} (h : CallR X f r) (h' : CallR X f r') : CallR X f (fun xs H Q => r xs H Q ∨ r' xs H Q) := fun pins s σ H xs us Q I rv q =>
  q.elim (fun q => h pins s σ H xs us Q I rv q) fun q => h' pins s σ H xs us Q I rv q
end
/-- an own error class without an __init__ of its own -/
structure ExcP (K : PySem.W.Frag) (C : Addr) : Prop where
  x : PySem.W.excIn K C [.type "ValueError", .type "Exception", .type "BaseException", .type "object"] "ValueError.__new__" = true
  k : PySem.W.keepIn K (.ref C) = true
  b : PySem.W.subIn K (.ref C) (.type "BaseException") = some true
  t : PySem.W.typeIn K (.ref C) = some (.type "type")
  i : PySem.W.isClsIn K C = true
  s : PySem.W.subIn K (.ref C) (.ref C) = some true
theorem exm_of {K : PySem.W.Frag} {C : Addr} (b : PySem.W.subIn K (.ref C) (.type "BaseException") = some true) (i : PySem.W.isClsIn K C = true) (t : PySem.W.typeIn K (.ref C) = some (.type "type")) (s : PySem.W.subIn K (.ref C) (.ref C) = some true) :
    PySem.W.exmOne K (.ref C) (.ref C) = some true := by
  have i' : (PySem.W.clsIn K C).isSome = true := i
  unfold PySem.W.exmOne PySem.W.kitCls
  simp [b, i', t, s]
theorem ExcP.e {K : PySem.W.Frag} {C : Addr} (h : ExcP K C) : PySem.W.exmOne K (.ref C) (.ref C) = some true := exm_of h.b h.i h.t h.s
theorem ExcP.raises {X : Cx} {C : Addr} (h : ExcP X.K C) : Raises X (.ref C) := raises_own h.b h.t
/-- .. with one, at fI -/
structure ExcI (K : PySem.W.Frag) (C fI : Addr) : Prop where
  o : OexC K C
  n : PySem.W.findIn K (.ref C) "__init__" = some (some (.ref fI))
  y : PySem.W.typeIn K (.ref fI) = some (.type "function")
  i : PySem.W.isClsIn K C = true
  s : PySem.W.subIn K (.ref C) (.ref C) = some true
  f : XfC K C
theorem ExcI.e {K : PySem.W.Frag} {C fI : Addr} (h : ExcI K C fI) : PySem.W.exmOne K (.ref C) (.ref C) = some true := exm_of h.o.exC h.i h.o.tyC h.s
section
variable {X : Cx}
/-- X() -/
theorem pmk_own0 {C : Addr} {bmB : List Value} {B newId initId : String} {x : Str} {p pos : Pos} (F : ExcBaseFacts B newId initId bmB) (q : PySem.W.excIn X.K C bmB newId = true) (gC : X.mg x = some (.ref C))
    (kC : PySem.W.keepIn X.K (.ref C) = true) (r : Raises X (.ref C)) (hg : Gl X x) (hdb : (x == ("__debug__" : Str)) = false := by decide) : PMk X (.Call (.Name x p) [] [] pos) (fun _ H Q => Q (.ref C) none H) := by
  intro pins s σ H Q I h
  refine wpAny_Call_Name_kw (ld_glob I hg gC (PySem.W.callWith_K0 I.kIn kC ?_) hdb)
  obtain ⟨bm, N, nm, qn, bs, hdct, sn, sub, ab, col, dd, k0, k1, k2, k3, k5, mN, hC, hN, hni, T⟩ := exc_obj I.kIn q
  exact wpAny_call_exc_subT F T hC hN hni (fun h' e hm => mk_of I hm r h (I.hok.gone hm.new)) (Nat.zero_le _)
end
end Jv

/-! ### binding with defaults -/
namespace Jv
open PySem PySem.Spec PyProof.Rows L2
section
variable {K : PySem.W.Frag} {fd : FuncData} {ps : List Str} {T : Addr} {o : Obj} {its : Array Value} {n : Nat}
theorem bindsD {ds : List Value} {m : Nat} (l : K.lookup T = some o) (hd : o.data = .seq its n) (hm : m + ds.length = ps.length)
    (h : ∀ us : List Value, us.length = m → ∃ k, bindArgs fd ⟨us, []⟩ = seqItems? (.ref T) >>= k ∧ k (some its) = pure (ps.zip (us ++ ds))) : Binds K fd ps ds := fun s us X hl => by
  obtain ⟨k, e1, e2⟩ := h us (by rw [List.length_append] at hl; omega)
  refine BindsTo.of_looks fun M => ?_
  rw [e1]
  exact looks_items X l hd (.of_pure e2)
theorem kbD {m : Nat} {ks : List Str} {g : List Value → List Value → List Value} {gV : List V → List V → List V} (l : K.lookup T = some o) (hd : o.data = .seq its n)
    (h : ∀ us ws : List Value, us.length = m → ws.length = ks.length → ∃ k, bindArgs fd ⟨us, ks.zip ws⟩ = seqItems? (.ref T) >>= k ∧ k (some its) = pure (ps.zip (g us ws)))
    (rel : ∀ {vs : List V} {us : List Value} {zs : List V} {ws : List Value}, Vals vs us → Vals zs ws → Vals (gV vs zs) (g us ws)) : KBn K fd ps m ks g gV := by
  refine ⟨fun s us ws X h1 h2 => ?_, rel⟩
  obtain ⟨k, e1, e2⟩ := h us ws h1 h2
  refine BindsTo.of_looks fun M => ?_
  rw [e1]
  exact looks_items X l hd (.of_pure e2)
end
end Jv
namespace Jv
open PySem PySem.Spec PyProof.Rows L2
section
variable {K : PySem.W.Frag} {σ : L2.St} {H : Hp} {D : Ends} {t u : TS} {te ta tb tc : TE} {g : TG} {tt tu : TT} {tA : TA} {i : Nat} {v x y z : V} {Q : VK} {R : Bool → Hp → Prop}
theorem r_gtup {T : Addr} {xs : List V} {n : Nat} {gs : TGs} {Q : L2.St → Hp → Prop} (h : SqT K H T xs) (hl : xs.length = n) (q : gs xs σ H Q) : gTup K n gs (.ref T) σ H Q := ⟨T, xs, rfl, h, hl, q⟩
theorem r_gcons {gs : TGs} {xs : List V} {Q : L2.St → Hp → Prop} (q : g v σ H fun σ' H' => gs xs σ' H' Q) : gCons g gs (v :: xs) σ H Q := ⟨v, xs, rfl, q⟩
theorem r_gnil {Q : L2.St → Hp → Prop} (q : Q σ H) : gNil [] σ H Q := ⟨rfl, q⟩
theorem r_lc {wi : TI} {vs : List Nat} (h : wi σ H fun J H1 => ∀ D, H1 D = none → ∃ W : Nat → Nat → Hp → Prop, (∃ m, W 0 m (upd H1 D (.lst []))) ∧ ∀ i m H, W i m H →
  (J.stop i H ∧ Q (.ref D) H) ∨ (J.go i H ∧ ∃ Nx : Hp → Prop, (∀ H', Nx H' → ∃ m', m' < m ∧ W (i + 1) m' H') ∧ ∀ x H', J.yld i H x H' → g x (wipe σ vs) H' fun σ2 H2 => wipe σ2 vs = wipe σ vs ∧ tt σ2 H2 fun b H3 =>
    if b = true then te σ2 H3 fun y H4 => ∃ acc, H4 D = some (.lst acc) ∧ acc.length < sizeLine ∧ Nx (upd H4 D (.lst (acc ++ [y]))) else Nx H3)) : tLc wi g tt te vs σ H Q := h
theorem r_iE {P : It → Hp → Prop} {a : Addr} {xs : List V} (h : SqL K H a xs) (q : P (Ite K a) H) : ∃ b ys, [V.ref a] = [.ref b] ∧ SqL K H b ys ∧ P (Ite K b) H := ⟨a, xs, rfl, h, q⟩
theorem r_iEn {P : It → Hp → Prop} (h : tA σ H fun vs H1 => ∃ b ys, vs = [.ref b] ∧ SqL K H1 b ys ∧ P (Ite K b) H1) : iEnum K tA σ H P := h
theorem r_iL {P : It → Hp → Prop} (h : te σ H fun x H1 => ∃ a, x = .ref a ∧ (∃ xs, SqL K H1 a xs) ∧ P (Itl K a) H1) : iList K te σ H P := h
theorem r_iT {P : It → Hp → Prop} (h : te σ H fun x H1 => ∃ a, x = .ref a ∧ (∃ xs, SqT K H1 a xs) ∧ P (Itt K a) H1) : iTup K te σ H P := h
theorem r_yes (q : R true H) : tYes σ H R := q
theorem r_abs {a : Int} {P : Int → Prop} (q : P (if a < 0 then -a else a)) : ∃ i, [V.int a] = [.int i] ∧ P (if i < 0 then -i else i) := ⟨a, rfl, q⟩
theorem r_ift {A B : Prop} (h : A) : if true = true then A else B := by rw [if_pos rfl]; exact h
theorem r_iff {A B : Prop} (h : B) : if false = true then A else B := by rw [if_neg Bool.false_ne_true]; exact h
end
end Jv
namespace Jv
open PySem PySem.Spec PyProof.Rows L2
section
variable {K : PySem.W.Frag} {H H' : Hp} {a p l : Addr} {xs : List V} {o u : HO}
theorem sqL_new (h : SqL K H a xs) (n : H p = none) : SqL K (upd H p u) a xs := (same_new n).seq h
theorem sqT_new (h : SqT K H a xs) (n : H p = none) : SqT K (upd H p u) a xs := Jv.Same.sqT (same_new n) h
theorem sqL_at (h : H a = some (.lst xs)) : SqL K H a xs := .inl (.inl h)
theorem sqT_at (h : H a = some (.tup xs)) : SqT K H a xs := .inl (.inl h)
theorem map_at {f : Int → V} {ns : List Int} {i : Nat} {x : V} (h : (ns.map f)[i]? = some x) : ∃ z, ns[i]? = some z ∧ x = f z := by
  rw [List.getElem?_map] at h
  cases e : ns[i]? with
  | none => rw [e] at h; cases h
  | some z => rw [e] at h; exact ⟨z, rfl, (Option.some.inj h).symm⟩
end
end Jv
namespace Jv
open PySem PySem.Spec PyProof.Rows L2
theorem r_wipe {σ1 σ2 : L2.St} {vs : List Nat} {P : Prop} (e : wipe σ1 vs = wipe σ2 vs) (q : P) : wipe σ1 vs = wipe σ2 vs ∧ P := ⟨e, q⟩
end Jv
namespace Jv
open PySem PySem.Spec PyProof.Rows L2
section
variable {K : PySem.W.Frag} {H : Hp}
def rLenK (K : PySem.W.Frag) : List V → Hp → VK → Prop := fun xs H Q => ∃ x n, xs = [x] ∧ LenV K x H n ∧ Q (.int n) H
theorem cr_len {X : Cx} : CallR X (.builtin "len") (rLenK X.K) := call_len
def rAbs : List V → Hp → VK → Prop := fun xs H Q => ∃ i, xs = [.int i] ∧ Q (.int (if i < 0 then -i else i)) H
theorem cr_abs {X : Cx} : CallR X (.builtin "abs") rAbs := call_abs
def rMin2 : List V → Hp → VK → Prop := fun xs H Q => ∃ i j, xs = [.int i, .int j] ∧ Q (.int (if j < i then j else i)) H
def rMax2 : List V → Hp → VK → Prop := fun xs H Q => ∃ i j, xs = [.int i, .int j] ∧ Q (.int (if j > i then j else i)) H
def rInt : List V → Hp → VK → Prop := fun xs H Q => (∃ i, xs = [.int i] ∧ Q (.int i) H) ∨ ∃ k, xs = [.bl k] ∧ Q (.int (if k then 1 else 0)) H
theorem cr_int {X : Cx} : CallR X (.type "int") rInt := call_int1
def rListOf (K : PySem.W.Frag) : List V → Hp → VK → Prop := fun xs H Q => ∃ p ys, xs = [.ref p] ∧ (SqL K H p ys ∨ SqT K H p ys) ∧ ∀ l, H l = none → Q (.ref l) (upd H l (.lst ys))
def rTupOf (K : PySem.W.Frag) : List V → Hp → VK → Prop := fun xs H Q => ∃ p ys, xs = [.ref p] ∧ ((SqL K H p ys ∧ ∀ l, H l = none → Q (.ref l) (upd H l (.tup ys))) ∨ (SqT K H p ys ∧ Q (.ref p) H))
section
variable {Q : VK}
theorem r_len {p : Addr} {xs : List V} (h : SqL K H p xs ∨ SqT K H p xs) (q : Q (.int xs.length) H) : rLenK K [V.ref p] H Q := ⟨_, xs.length, rfl, by
  rcases h with h | h
  · exact .inl ⟨xs, h, rfl⟩
  · exact .inr ⟨xs, h, rfl⟩, q⟩
theorem r_absN {a : Int} (q : Q (.int (if a < 0 then -a else a)) H) : rAbs [.int a] H Q := ⟨a, rfl, q⟩
theorem r_min {a b : Int} (q : Q (.int (if b < a then b else a)) H) : rMin2 [.int a, .int b] H Q := ⟨a, b, rfl, q⟩
theorem r_max {a b : Int} (q : Q (.int (if b > a then b else a)) H) : rMax2 [.int a, .int b] H Q := ⟨a, b, rfl, q⟩
theorem r_intN {a : Int} (q : Q (.int a) H) : rInt [.int a] H Q := .inl ⟨a, rfl, q⟩
theorem r_listOf {p : Addr} {ys : List V} (h : SqL K H p ys ∨ SqT K H p ys) (q : ∀ l, H l = none → Q (.ref l) (upd H l (.lst ys))) : rListOf K [.ref p] H Q := ⟨p, ys, rfl, h, q⟩
theorem r_tupOfL {p : Addr} {ys : List V} (h : SqL K H p ys) (q : ∀ l, H l = none → Q (.ref l) (upd H l (.tup ys))) : rTupOf K [.ref p] H Q := ⟨p, ys, rfl, .inl ⟨h, q⟩⟩
theorem r_tupOfT {p : Addr} {ys : List V} (h : SqT K H p ys) (q : Q (.ref p) H) : rTupOf K [.ref p] H Q := ⟨p, ys, rfl, .inr ⟨h, q⟩⟩
end
theorem r_decI {A B : Prop} {a b : Int} (h1 : a = b → A) (h2 : a ≠ b → B) : if decide (V.int a = V.int b) = true then A else B := r_dec (fun h => h1 (V.int.inj h)) fun h => h2 fun e => h (by rw [e])
theorem r_ndecI {A B : Prop} {a b : Int} (h1 : a ≠ b → A) (h2 : a = b → B) : if (!decide (V.int a = V.int b)) = true then A else B := r_ndec (fun h => h1 fun e => h (by rw [e])) fun h => h2 (V.int.inj h)
theorem ixN_of {n j : Nat} (hj : j < n) : ixN n (j : Int) = some j := by
  unfold ixN
  rw [if_pos (by omega), if_pos (by omega)]
  simp
end
end Jv
namespace Jv
open PySem PySem.Spec PyProof.Rows L2
theorem at_i {xs : List V} {k : Int} {v : V} (h0 : 0 ≤ k) (h : xs[k.toNat]? = some v) : atI xs k = some v := by
  rw [show k = ((k.toNat : Nat) : Int) by omega]
  exact atI_nat h
theorem map_get {f : Int → V} {ns : List Int} {i : Nat} (h : i < ns.length) : (ns.map f)[i]? = some (f ns[i]) := by
  rw [List.getElem?_map, List.getElem?_eq_getElem h]; rfl
end Jv

/-! ### things of any sort -/
namespace Jv
open PySem PySem.Spec PyProof.Rows L2
/-- a thing that a law hands in: a scalar, or a list, a tuple, a dict that stands -/
def Th (H : Hp) : V → Prop
  | .non => True
  | .bl _ => True
  | .int _ => True
  | .str _ => True
  | .ref a => (∃ xs, H a = some (.lst xs)) ∨ (∃ xs, H a = some (.tup xs)) ∨ ∃ kvs, H a = some (.dK kvs)
  | _ => False
def isB : V → Bool
  | .bl _ => true
  | _ => false
def isI : V → Bool
  | .int _ => true
  | _ => false
/-- a list or a tuple of xs -/
def Sq (H : Hp) (x : V) (xs : List V) : Prop := ∃ a, x = .ref a ∧ (H a = some (.lst xs) ∨ H a = some (.tup xs))
def sqOf (H : Hp) : V → Option (List V)
  | .ref a => match H a with
    | some (.lst xs) => some xs
    | some (.tup xs) => some xs
    | _ => none
  | _ => none
theorem sq_some {H : Hp} {x : V} {xs : List V} (h : sqOf H x = some xs) : Sq H x xs := by
  unfold sqOf at h
  split at h
  · rename_i a
    split at h
    · rename_i ys e; cases h; exact ⟨a, rfl, .inl e⟩
    · rename_i ys e; cases h; exact ⟨a, rfl, .inr e⟩
    · cases h
  · cases h
theorem Sq.of {H : Hp} {x : V} {xs : List V} (h : Sq H x xs) : sqOf H x = some xs := by
  obtain ⟨a, rfl, h | h⟩ := h <;> simp [sqOf, h]
theorem Sq.same {H H' : Hp} {x : V} {xs : List V} (h : Sq H x xs) (s : Same H H') : Sq H' x xs := by
  obtain ⟨a, rfl, h | h⟩ := h
  · exact ⟨a, rfl, .inl (s _ _ h)⟩
  · exact ⟨a, rfl, .inr (s _ _ h)⟩
theorem Sq.th {H : Hp} {x : V} {xs : List V} (h : Sq H x xs) : Th H x := by
  obtain ⟨a, rfl, h | h⟩ := h
  · exact .inl ⟨_, h⟩
  · exact .inr (.inl ⟨_, h⟩)
theorem Th.same {H H' : Hp} {x : V} (h : Th H x) (s : Same H H') : Th H' x := by
  cases x with
  | ref a =>
    rcases h with ⟨xs, h⟩ | ⟨xs, h⟩ | ⟨xs, h⟩
    · exact .inl ⟨xs, s _ _ h⟩
    · exact .inr (.inl ⟨xs, s _ _ h⟩)
    · exact .inr (.inr ⟨xs, s _ _ h⟩)
  | _ => exact h
theorem sqOf_same {H H' : Hp} {x : V} (h : Th H x) (s : Same H H') : sqOf H' x = sqOf H x := by
  cases x with
  | ref a => rcases h with ⟨xs, h⟩ | ⟨xs, h⟩ | ⟨xs, h⟩ <;> simp [sqOf, h, s _ _ h]
  | _ => rfl
section
variable {K : PySem.W.Frag} {H : Hp} {x : V} {Q : VK}
theorem th_ty (h : Th H x) : ∃ t, TyX K H x (.type t) ∧ kitB t "bool" = some (isB x) ∧ kitB t "int" = some (isB x || isI x) ∧ kitB t "list" = some (t == "list") ∧ kitB t "tuple" = some (t == "tuple") ∧ ((t == "list") || (t == "tuple")) = (sqOf H x).isSome := by
  cases x with
  | non => exact ⟨_, .base .non, (by decide +kernel : kitB "NoneType" "bool" = some false), (by decide +kernel : kitB "NoneType" "int" = some false), by decide +kernel, by decide +kernel, (by decide +kernel : (("NoneType" == "list") || ("NoneType" == "tuple")) = false)⟩
  | bl b => exact ⟨_, .base (.bl b), (by decide +kernel : kitB "bool" "bool" = some true), (by decide +kernel : kitB "bool" "int" = some true), by decide +kernel, by decide +kernel, (by decide +kernel : (("bool" == "list") || ("bool" == "tuple")) = false)⟩
  | int i => exact ⟨_, .base (.int i), (by decide +kernel : kitB "int" "bool" = some false), (by decide +kernel : kitB "int" "int" = some true), by decide +kernel, by decide +kernel, (by decide +kernel : (("int" == "list") || ("int" == "tuple")) = false)⟩
  | str i => exact ⟨_, .base (.str i), (by decide +kernel : kitB "str" "bool" = some false), (by decide +kernel : kitB "str" "int" = some false), by decide +kernel, by decide +kernel, (by decide +kernel : (("str" == "list") || ("str" == "tuple")) = false)⟩
  | ref a =>
    rcases h with ⟨xs, h⟩ | ⟨xs, h⟩ | ⟨xs, h⟩
    · exact ⟨_, .base (.lst h), (by decide +kernel : kitB "list" "bool" = some false), (by decide +kernel : kitB "list" "int" = some false), by decide +kernel, by decide +kernel, by simp [sqOf, h]⟩
    · exact ⟨_, .base (.tup h), (by decide +kernel : kitB "tuple" "bool" = some false), (by decide +kernel : kitB "tuple" "int" = some false), by decide +kernel, by decide +kernel, by simp [sqOf, h]⟩
    · exact ⟨_, .base (.dK h), (by decide +kernel : kitB "dict" "bool" = some false), (by decide +kernel : kitB "dict" "int" = some false), by decide +kernel, by decide +kernel, by simp [sqOf, h]⟩
  | byt _ => exact h.elim
  | flt _ => exact h.elim
  | ty _ => exact h.elim
theorem r_isB (h : Th H x) (q : Q (.bl (isB x)) H) : rIsi K [x, .ty "bool"] H Q := by
  obtain ⟨t, h1, h2, _⟩ := th_ty (K := K) h
  exact ⟨x, _, _, _, _, rfl, .ty _, h1, kit_ty h2, q⟩
theorem r_isI (h : Th H x) (q : Q (.bl (isB x || isI x)) H) : rIsi K [x, .ty "int"] H Q := by
  obtain ⟨t, h1, _, h2, _⟩ := th_ty (K := K) h
  exact ⟨x, _, _, _, _, rfl, .ty _, h1, kit_ty h2, q⟩
theorem r_isS {p : Addr} (hp : H p = some (.tup [.ty "list", .ty "tuple"])) (h : Th H x) (q : Q (.bl (sqOf H x).isSome) H) : rIsiT K [x, .ref p] H Q := by
  obtain ⟨t, h1, _, _, h2, h3, h4⟩ := th_ty (K := K) h
  refine ⟨x, p, _, _, _, (sqOf H x).isSome, rfl, hp, .cons (.ty _) (.cons (.ty _) .nil), h1, ?_, q⟩
  refine kitAny_cons (kit_ty h2) (fun e => ?_) fun e => by rw [← h4, e]; rfl
  refine kitAny_cons (kit_ty h3) (fun e2 => ?_) fun e2 => by rw [← h4, e2, Bool.or_true]
  rw [kitAny_nil, ← h4, e, e2]; rfl
theorem r_rfl {a : V} {P : Prop} (q : P) : a = a ∧ P := ⟨rfl, q⟩
end
/-- is_whole's answer -/
def loOk : V → Int → Bool
  | .int l, i => decide (l ≤ i)
  | _, _ => true
def hiOk : V → Int → Bool
  | .int l, i => decide (i ≤ l)
  | _, _ => true
def wholeV : V → V → V → Bool
  | .int i, lo, hi => loOk lo i && hiOk hi i
  | _, _, _ => false
def Bd (x : V) : Prop := x = .non ∨ ∃ i, x = .int i
theorem wholeV_int {x : V} {l h : Int} : wholeV x (.int l) (.int h) = true → ∃ i, x = .int i ∧ l ≤ i ∧ i ≤ h := by
  intro q
  cases x with
  | int i => simp [wholeV, loOk, hiOk] at q; exact ⟨i, rfl, q⟩
  | _ => cases q
end Jv
namespace Jv
open PySem PySem.Spec PyProof.Rows L2
theorem wholeV_lo0 {i a : Int} {hi : V} (h : i < a) : wholeV (.int i) (.int a) hi = false := by
  show (decide (a ≤ i) && hiOk hi i) = false
  rw [decide_eq_false (by omega), Bool.false_and]
theorem wholeV_lo1 {i a : Int} {hi : V} (h : ¬ i < a) : wholeV (.int i) (.int a) hi = hiOk hi i := by
  show (decide (a ≤ i) && hiOk hi i) = _
  rw [decide_eq_true (by omega), Bool.true_and]
theorem r_dec1 {A B p : Prop} {_ : Decidable p} (h : p) (q : A) : if decide p = true then A else B := r_true (decide_eq_true h) q
theorem r_dec0 {A B p : Prop} {_ : Decidable p} (h : ¬ p) (q : B) : if decide p = true then A else B := r_false (decide_eq_false h) q
end Jv

/-! ### walks over a list or a tuple; comprehensions whose elements are told by a function -/
namespace Jv
open PySem PySem.Spec PyProof.Rows L2
theorem piOr {X : Cx} {tg it : Expr} {w1 w2 : TI} (h : PI X tg it w1) (h' : PI X tg it w2) : PI X tg it (fun σ H R => w1 σ H R ∨ w2 σ H R) := ⟨fun pins s σ H R I q => q.elim (h.run pins s σ H R I) (h'.run pins s σ H R I)⟩
section
variable {K : PySem.W.Frag} {σ : L2.St} {H : Hp} {te : TE} {Q : VK} {xs : List V} {j i : Nat} {x : V}
theorem wipe1 {v : Option V} : wipe ((σ.set j none).set j v) [j] = wipe σ [j] := by
  show ((σ.set j none).set j v).set j none = σ.set j none
  rw [List.set_set, List.set_set]
theorem take_more {α : Type} {l : List α} {i : Nat} {x : α} (h : l[i]? = some x) : l.take (i + 1) = l.take i ++ [x] := by
  rw [List.take_add_one, h]; rfl
theorem lcF {J : It} {G : Hp → Prop} (w : Walk J xs.length G (YAt xs)) (hG : ∀ H', Same H H' → G H') (f : V → V) (few : xs.length ≤ 1000)
    (hs : ∀ v H1, v ∈ xs → Same H H1 → ∀ P : VK, (∀ H2, Same H1 H2 → P (f v) H2) → te ((σ.set j none).set j (some v)) H1 P)
    (hd : ∀ D H1, Same H H1 → H D = none → H1 D = some (.lst (xs.map f)) → Q (.ref D) H1) : ∀ D, H D = none → ∃ W : Nat → Nat → Hp → Prop, (∃ m, W 0 m (upd H D (.lst []))) ∧ ∀ i m H, W i m H →
      (J.stop i H ∧ Q (.ref D) H) ∨ (J.go i H ∧ ∃ Nx : Hp → Prop, (∀ H', Nx H' → ∃ m', m' < m ∧ W (i + 1) m' H') ∧ ∀ x H', J.yld i H x H' → gName j x (wipe σ [j]) H' fun σ2 H2 => wipe σ2 [j] = wipe σ [j] ∧ tYes σ2 H2 fun b H3 =>
        if b = true then te σ2 H3 fun y H4 => ∃ acc, H4 D = some (.lst acc) ∧ acc.length < sizeLine ∧ Nx (upd H4 D (.lst (acc ++ [y]))) else Nx H3) := by
  intro D hD
  refine lc_it w (fun i H1 => Same H H1 ∧ H1 D = some (.lst ((xs.take i).map f))) ⟨same_new hD, upd_same⟩ (fun i H1 _ h => hG H1 h.1) ?_ ?_
  · rintro i x H1 H2 hi ⟨s1, e1⟩ ⟨rfl, hx⟩
    refine ⟨wipe1, ?_⟩
    refine r_yes ?_
    refine r_true (c := true) rfl ?_
    refine hs x _ (List.mem_of_getElem? hx) s1 _ fun H3 s3 => ⟨_, s3 _ _ e1, ?_, ?_, ?_⟩
    · rw [List.length_map, List.length_take]; exact small_lt (by omega)
    · intro b o e; exact kpO (s3 _ _ (s1 b o e)) (ne_of_none e hD)
    · rw [upd_same, take_more hx, List.map_append]; rfl
  · rintro H1 ⟨s1, e1⟩
    rw [List.take_length] at e1
    exact hd D H1 s1 hD e1
/-- over a name that holds a list | a tuple | either -/
theorem lcL {a : Addr} (hv : σ[i]? = some (some (.ref a))) (hx : SqL K H a xs) (f : V → V) (few : xs.length ≤ 1000)
    (hs : ∀ v H1, v ∈ xs → Same H H1 → ∀ P : VK, (∀ H2, Same H1 H2 → P (f v) H2) → te ((σ.set j none).set j (some v)) H1 P)
    (hd : ∀ D H1, Same H H1 → H D = none → H1 D = some (.lst (xs.map f)) → Q (.ref D) H1) : tLc (iList K (tVar i)) (gName j) tYes te [j] σ H Q :=
  ⟨_, hv, a, rfl, ⟨xs, hx⟩, lcF walk_list (fun H' s => s.seq hx) f few hs hd⟩
theorem lcT {a : Addr} (hv : σ[i]? = some (some (.ref a))) (hx : SqT K H a xs) (f : V → V) (few : xs.length ≤ 1000)
    (hs : ∀ v H1, v ∈ xs → Same H H1 → ∀ P : VK, (∀ H2, Same H1 H2 → P (f v) H2) → te ((σ.set j none).set j (some v)) H1 P)
    (hd : ∀ D H1, Same H H1 → H D = none → H1 D = some (.lst (xs.map f)) → Q (.ref D) H1) : tLc (iTup K (tVar i)) (gName j) tYes te [j] σ H Q :=
  ⟨_, hv, a, rfl, ⟨xs, hx⟩, lcF walk_tup (fun H' s => Jv.Same.sqT s hx) f few hs hd⟩
theorem lcS (hv : σ[i]? = some (some x)) (hx : Sq H x xs) (f : V → V) (few : xs.length ≤ 1000)
    (hs : ∀ v H1, v ∈ xs → Same H H1 → ∀ P : VK, (∀ H2, Same H1 H2 → P (f v) H2) → te ((σ.set j none).set j (some v)) H1 P)
    (hd : ∀ D H1, Same H H1 → H D = none → H1 D = some (.lst (xs.map f)) → Q (.ref D) H1) : tLc (fun σ H R => iList K (tVar i) σ H R ∨ iTup K (tVar i) σ H R) (gName j) tYes te [j] σ H Q := by
  obtain ⟨a, rfl, h | h⟩ := hx
  · exact .inl (lcL hv (sqL_at h) f few hs hd)
  · exact .inr (lcT hv (sqT_at h) f few hs hd)
theorem r_all {D : Addr} {f : V → Bool} (h : H D = some (.lst (xs.map fun v => V.bl (f v)))) (q : Q (.bl (xs.all f)) H) : rAll K [.ref D] H Q := by
  refine ⟨D, xs.map f, rfl, sqL_at (by rw [h, List.map_map]; rfl), ?_⟩
  rw [List.all_map]; exact q
theorem Sq.len (h : Sq H x xs) (q : Q (.int xs.length) H) : rLenK K [x] H Q := by
  obtain ⟨a, rfl, h | h⟩ := h
  · exact r_len (.inl (sqL_at h)) q
  · exact r_len (.inr (sqT_at h)) q
theorem Sq.ix (h : Sq H x xs) {k : Int} {v : V} (e : atI xs k = some v) (q : Q v H) : rIx K x (.int k) H Q := by
  obtain ⟨a, rfl, h | h⟩ := h
  · exact .inl (r_ixL (sqL_at h) e q)
  · exact .inr (.inl (r_ixT (sqT_at h) e q))
end
end Jv

/-! ### sorted(t) of a tuple of ints -/
namespace JvS
open PySem PySem.Spec PyProof.Rows L2 SrtO
section
variable {P : Program} {w : World} {A : Around} {E : Value → Shared → Prop} {s : Shared}
/-- the list that collect makes -/
abbrev colH (h : Heap) (vs : List Value) : Heap := (h.push (seqObj "list" #[] 0)).update h.objs.size (Obj.mapSeq (· ++ vs.toArray))
theorem collect_tup {l : Addr} {vs : List Value} {Q : List Value → Shared → Prop} (hl : s.heap.IsTuple l vs.toArray) (h : Q vs { s with heap := colH s.heap vs }) (hsz : vs.length ≤ sizeLine) :
    wpAny (model P w) A (collect (.ref l)) Q E s := by
  obtain ⟨o, ho, hc, n, hd⟩ := id hl
  have ho2 : (s.heap.push (seqObj "list" #[] 0)).get? l = some o := Heap.get?_push_of_some _ ho
  have new : (s.heap.push (seqObj "list" #[] 0)).get? s.heap.objs.size = some (seqObj "list" #[] 0) := Heap.get?_push_size _ rfl
  unfold collect
  refine wpAny_bind (wpAny_runValue (codeAny_builtin entry_proto_collect' (show wpAny _ _ (do again (.builtin "list.__iadd__" ⟨[← newList [], .ref l], []⟩)) _ _ s from
    wpAny_bind (wpAny_newList (wpAny_pure ⟨Code.quiet_builtin _ (by decide +kernel), codeAny_builtin entry_list_iadd' ?_⟩)))))
  show wpAny _ _ (Builtin.List.listExtendWith (.ref s.heap.objs.size) (.ref l) (.ref s.heap.objs.size)) _ _ { s with heap := s.heap.push (seqObj "list" #[] 0) }
  unfold Builtin.List.listExtendWith
  refine wpAny_bind (wpAny_typeOf (T := "tuple") ⟨o, ho2, hc⟩ ?_)
  rw [if_pos (by have e : (Value.type "tuple" == Value.type "tuple") = true := rfl
                 rw [e]; simp)]
  refine wpAny_bind (listItems_at ho2 hd (wpAny_bind (listItems_at (xs := #[]) (n := 0) new rfl ?_)))
  rw [if_neg (by simp)]
  refine wpAny_bind (listUpdate_at (xs := #[]) (n := 0) new rfl (wpAny_pure ?_) (Nat.zero_le _) (by show (#[] ++ vs.toArray).size ≤ sizeLine + 1; simp; omega))
  show wpAny (model P w) A (do
      let o ← load s.heap.objs.size
      match o.data with
      | .seq ys _ => pure ys.toList
      | _ => unsupported "internal:collect") Q E { s with heap := colH s.heap vs }
  refine wpAny_bind (wpAny_load (get?_update_seq new _) (show wpAny _ _ (pure ((#[] : Array Value) ++ vs.toArray).toList) Q E _ from ?_))
  rw [show ((#[] : Array Value) ++ vs.toArray).toList = vs by simp]
  exact wpAny_pure h
theorem sorted_tup {l : Addr} {vs : List Value} {ltv : Value → Value → Bool} {Q : Value → Shared → Prop} (O : Swo ltv) (hl : s.heap.IsTuple l vs.toArray) (hz : vs.length ≤ sizeLine)
    (hS : 2 ≤ vs.length → ∀ (h₁ : Heap) (a : Addr), h₁.get? a = some (seqObj "list" vs.toArray 0) → (∀ b o, s.heap.get? b = some o → b ≠ a ∧ h₁.get? b = some o) → SortableO P w A.in1.in1 { s with heap := h₁ } a vs ltv)
    (h : ∀ out : List Value, Srtd ltv out → Stb ltv out vs → Q (.ref (s.heap.objs.size + 1)) { s with heap := sortedAll s.heap vs out.toArray }) :
    wpAny (model P w) A (call (.builtin "sorted") [.ref l]) Q E s := by
  refine Calls.call_function_entry kind_sorted plain_sorted entry_sorted (args_sorted1 _) ?_
  unfold Builtin.«sorted»
  refine wpAny_bind (m := checkCount "sorted" 1 1 _) (wpAny_pure (wpAny_bind (collect_tup hl (wpAny_bind (wpAny_newList ?_ hz)) hz)))
  have size1 : (colH s.heap vs).objs.size = s.heap.objs.size + 1 := by rw [Heap.size_update, size_push']
  have at2 : ((colH s.heap vs).push (seqObj "list" vs.toArray 0)).get? (s.heap.objs.size + 1) = some (seqObj "list" vs.toArray 0) := by
    rw [← size1]; exact Heap.get?_push_size _ rfl
  have old : ∀ b o, s.heap.get? b = some o → b ≠ s.heap.objs.size + 1 ∧ ((colH s.heap vs).push (seqObj "list" vs.toArray 0)).get? b = some o := fun b o q => by
    have lt := Heap.lt_size q
    refine ⟨Nat.ne_of_lt (Nat.lt_succ_of_lt lt), Heap.get?_push_of_some _ ?_⟩
    rw [Heap.get?_update_ne _ _ _ _ (Nat.ne_of_lt lt)]
    exact Heap.get?_push_of_some _ q
  show wpAny _ _ _ _ _ { s with heap := (colH s.heap vs).push (seqObj "list" vs.toArray 0) }
  rw [size1]
  refine wpAny_bind (wpAny_holding (wpAny_call_entry slot_list_sort ⟨_, at2, rfl⟩ entry_list_sort (list_sort_ord O at2 hz (fun h2 => hS h2 _ _ at2 old) fun out a b => ⟨_, rfl, wpAny_pure ⟨_, rfl, h out a b⟩⟩) (args_list_sort _)))
end
end JvS
namespace Jv
open PySem PySem.Spec PyProof.Rows L2
section
variable {X : Cx}
/-- sorted(x), x a list or a tuple of ints -/
def rSortIT (K : PySem.W.Frag) : List V → Hp → VK → Prop := fun vs H Q => ∃ (a : Addr) (ns : List Int), vs = [V.ref a] ∧ (SqL K H a (ns.map V.int) ∨ SqT K H a (ns.map V.int)) ∧
  ∀ (ns' : List Int) (p : Addr), ns'.Perm ns → ns'.Pairwise (· ≤ ·) → H p = none → Q (.ref p) (upd H p (.lst (ns'.map V.int)))
theorem cr_sortIT : CallR X (.builtin "sorted") (rSortIT X.K) := by
  intro pins s σ H vs us Q I r h
  obtain ⟨a, ns, rfl, hs | hs, q⟩ := h
  · exact cr_sortedI pins s σ H _ us Q I r ⟨a, ns, rfl, hs, q⟩
  · obtain ⟨its, rv, ht, hz⟩ := I.tuple hs
    rw [Vals.ref1 r]
    have hi := rv.ints
    rw [List.length_map] at hz
    have hz2 : its.length ≤ sizeLine := by rw [← rv.length, List.length_map]; exact hz
    refine JvS.sorted_tup SrtO.swo_int (show s.heap.IsTuple a its.toArray from ht) hz2 (fun h2 _ _ _ _ => SrtO.ints_sortable hi h2) fun out h1 h2 => ?_
    obtain ⟨k1, k2, k3⟩ := SrtO.ints_out hi h1 h2
    obtain ⟨ep, he⟩ := PyProof.Rows.sortedAll_at s.heap its out.toArray
    refine ⟨.ref _, upd H (s.heap.objs.size + 1) (.lst ((out.map SrtO.iv).map V.int)), I.laid (t' := s.toks) (fun _ _ => PyProof.Rows.sortedAll_old) (Nat.le_succ _) ⟨?_, out, ep, vals_of_ints k1, he⟩, rfl, q _ _ k2 k3 (I.hok.fresh (Nat.le_succ _))⟩
    rw [List.length_map, k2.length_eq]; exact hz
end
/-! ### data of ints -/
theorem canAll_ints : ∀ ns : List Int, PyData.canLayAll0 (ns.map PyData.int) = true
  | [] => by simp [PyData.canLayAll0]
  | a :: r => by simp [PyData.canLayAll0, PyData.canLay0, canAll_ints r]
theorem depAll_ints : ∀ ns : List Int, PyData.depthAll (ns.map PyData.int) = 0
  | [] => by simp [PyData.depthAll]
  | a :: r => by simp [PyData.depthAll, PyData.depth, depAll_ints r]
theorem shapedL (ns : List Int) : SeqAt.shaped (.list (ns.map .int)) = true := by simp [SeqAt.shaped, PyData.canLay0, PyData.depth, canAll_ints, depAll_ints]
theorem shapedT (ns : List Int) : SeqAt.shaped (.tuple (ns.map .int)) = true := by simp [SeqAt.shaped, PyData.canLay0, PyData.depth, canAll_ints, depAll_ints]
theorem eqvAll_ints : ∀ a b : List Int, PyData.eqvAll (a.map .int) (b.map .int) = decide (a = b)
  | [], [] => by simp [PyData.eqvAll]
  | [], _ :: _ => by simp [PyData.eqvAll]
  | _ :: _, [] => by simp [PyData.eqvAll]
  | x :: a, y :: b => by
    simp only [List.map_cons, PyData.eqvAll, PyData.eqv, eqvAll_ints a b]
    by_cases h : x = y <;> by_cases g : a = b <;> simp [h, g]
theorem eqvL (a b : List Int) : PyData.eqv (.list (a.map .int)) (.list (b.map .int)) = decide (a = b) := by rw [PyData.eqv, eqvAll_ints]
theorem eqvT (a b : List Int) : PyData.eqv (.tuple (a.map .int)) (.tuple (b.map .int)) = decide (a = b) := by rw [PyData.eqv, eqvAll_ints]
section
variable {K : PySem.W.Frag} {H : Hp}
theorem dpAll_ints : ∀ ns : List Int, DpAll K H (ns.map V.int) (ns.map PyData.int)
  | [] => .nil
  | a :: r => .cons (.int a) (dpAll_ints r)
theorem dpL {a : Addr} {ns : List Int} (h : SqL K H a (ns.map V.int)) : Dp K H (.ref a) (.list (ns.map .int)) := .lst h (dpAll_ints ns)
theorem dpT {a : Addr} {ns : List Int} (h : SqT K H a (ns.map V.int)) : Dp K H (.ref a) (.tuple (ns.map .int)) := .tup h (dpAll_ints ns)
end
end Jv

/-! ### kinds, lots, orders -/
namespace Jv
open PySem PySem.Spec PyProof.Rows L2
def intsV : List V → Option (List Int)
  | [] => some []
  | .int i :: r => (intsV r).map (i :: ·)
  | _ :: _ => none
theorem iv_map : ∀ ns : List Int, intsV (ns.map V.int) = some ns
  | [] => rfl
  | a :: r => by simp [intsV, iv_map r]
theorem iv_of : ∀ {xs : List V} {ns : List Int}, intsV xs = some ns → xs = ns.map V.int
  | [], ns, h => by cases h; rfl
  | .int i :: r, ns, h => by
    cases e : intsV r with
    | none => simp [intsV, e] at h
    | some m => simp [intsV, e] at h; subst h; rw [iv_of e]; rfl
  | .non :: _, _, h => by cases h
  | .bl _ :: _, _, h => by cases h
  | .str _ :: _, _, h => by cases h
  | .byt _ :: _, _, h => by cases h
  | .flt _ :: _, _, h => by cases h
  | .ref _ :: _, _, h => by cases h
  | .ty _ :: _, _, h => by cases h
/-- what a sequence's items must be for the program to look at them -/
def ThS (H : Hp) (x : V) : Prop := Th H x ∧ ∀ xs, Sq H x xs → xs.length ≤ 60 ∧ ∀ v ∈ xs, Th H v
theorem ThS.same {H H' : Hp} {x : V} (h : ThS H x) (s : Same H H') : ThS H' x := ⟨h.1.same s, fun xs q => by
  have e := q.of
  rw [sqOf_same h.1 s] at e
  obtain ⟨a, b⟩ := h.2 xs (sq_some e)
  exact ⟨a, fun v m => (b v m).same s⟩⟩
def kindsB (H : Hp) (x : V) (k : Int) : Bool := match sqOf H x with
  | some xs => xs.all fun v => wholeV v (.int 0) (.int (k - 1))
  | none => false
def inK (k : Int) (ns : List Int) : Prop := ∀ n ∈ ns, 0 ≤ n ∧ n ≤ k - 1
theorem whole_all {k : Int} : ∀ {xs : List V}, (xs.all fun v => wholeV v (.int 0) (.int (k - 1))) = true → ∃ ns, xs = ns.map V.int ∧ inK k ns
  | [], _ => ⟨[], rfl, fun _ h => by cases h⟩
  | x :: r, h => by
    rw [List.all_cons, Bool.and_eq_true] at h
    obtain ⟨i, rfl, h1, h2⟩ := wholeV_int h.1
    obtain ⟨ns, rfl, h3⟩ := whole_all h.2
    refine ⟨i :: ns, rfl, fun n hn => ?_⟩
    rcases List.mem_cons.mp hn with rfl | hn
    · exact ⟨h1, h2⟩
    · exact h3 n hn
theorem all_whole {k : Int} {ns : List Int} (h : inK k ns) : ((ns.map V.int).all fun v => wholeV v (.int 0) (.int (k - 1))) = true := by
  rw [List.all_map, List.all_eq_true]
  intro n hn
  obtain ⟨a, b⟩ := h n hn
  show (decide (0 ≤ n) && decide (n ≤ k - 1)) = true
  rw [decide_eq_true a, decide_eq_true b]; rfl
instance {k : Int} {ns : List Int} : Decidable (inK k ns) := inferInstanceAs (Decidable (∀ n ∈ ns, _))
theorem whole_all_iff {k : Int} {ns : List Int} : ((ns.map V.int).all fun v => wholeV v (.int 0) (.int (k - 1))) = decide (inK k ns) := by
  by_cases h : inK k ns
  · rw [all_whole h, decide_eq_true h]
  · rw [decide_eq_false h]
    cases e : (ns.map V.int).all fun v => wholeV v (.int 0) (.int (k - 1)) with
    | false => rfl
    | true =>
      obtain ⟨ms, e2, h2⟩ := whole_all e
      have e3 : ns = ms := by have q := iv_map ns; rw [e2, iv_map] at q; cases q; rfl
      exact absurd (e3 ▸ h2) h
theorem sorted_ext : ∀ {a b : List Int}, a.Pairwise (· < ·) → b.Pairwise (· < ·) → (∀ n, n ∈ a ↔ n ∈ b) → a = b
  | [], [], _, _, _ => rfl
  | [], y :: _, _, _, h => absurd ((h y).mpr List.mem_cons_self) (by simp)
  | x :: _, [], _, _, h => absurd ((h x).mp List.mem_cons_self) (by simp)
  | x :: a, y :: b, ha, hb, h => by
    have ha' := List.pairwise_cons.mp ha
    have hb' := List.pairwise_cons.mp hb
    have e : x = y := by
      rcases List.mem_cons.mp ((h x).mp List.mem_cons_self) with e | m1
      · exact e
      · rcases List.mem_cons.mp ((h y).mpr List.mem_cons_self) with e | m2
        · exact e.symm
        · have q1 := hb'.1 x m1
          have q2 := ha'.1 y m2
          omega
    subst e
    congr 1
    refine sorted_ext ha'.2 hb'.2 fun n => ⟨fun m => ?_, fun m => ?_⟩
    · rcases List.mem_cons.mp ((h n).mp (List.mem_cons_of_mem _ m)) with e | q
      · subst e; exact absurd (ha'.1 n m) (by omega)
      · exact q
    · rcases List.mem_cons.mp ((h n).mpr (List.mem_cons_of_mem _ m)) with e | q
      · subst e; exact absurd (hb'.1 n m) (by omega)
      · exact q
def lotP (k : Int) (ns : List Int) : Prop := inK k ns ∧ 0 < ns.length ∧ ns.Pairwise (· < ·)
instance {k : Int} {ns : List Int} : Decidable (lotP k ns) := inferInstanceAs (Decidable (_ ∧ _))
def lotV (H : Hp) (x : V) (k : Int) : Bool := match sqOf H x with
  | some xs => match intsV xs with
    | some ns => decide (lotP k ns)
    | none => false
  | none => false
theorem set_eq {ns ms : List Int} (h1 : ms.Pairwise (· < ·)) (h2 : ∀ k : Int, k ∈ ms ↔ decide (k ∈ ns) = true) : (ns = ms) ↔ ns.Pairwise (· < ·) :=
  ⟨fun e => e ▸ h1, fun h => sorted_ext h h1 fun n => by rw [h2 n, decide_eq_true_iff]⟩
def orderP (k : Int) (ns : List Int) : Prop := inK k ns ∧ ns.Perm ((List.range k.toNat).map fun (i : Nat) => (i : Int))
instance {k : Int} {ns : List Int} : Decidable (orderP k ns) := inferInstanceAs (Decidable (_ ∧ _))
theorem range_sorted (n : Nat) : ((List.range n).map fun (i : Nat) => (i : Int)).Pairwise (· ≤ ·) := by
  rw [List.pairwise_map]
  exact List.pairwise_lt_range.imp fun h => by omega
theorem sorted_perm {a b : List Int} (ha : a.Pairwise (· ≤ ·)) (hb : b.Pairwise (· ≤ ·)) (h : a.Perm b) : a = b :=
  List.Perm.eq_of_pairwise (fun x y _ _ h1 h2 => by omega) ha hb h
def orderV (H : Hp) (x : V) (k : Int) : Bool := match sqOf H x with
  | some xs => match intsV xs with
    | some ns => decide (orderP k ns)
    | none => false
  | none => false
end Jv
namespace Jv
open PySem PySem.Spec PyProof.Rows L2
section
variable {H : Hp} {x : V} {k : Int} {ns : List Int}
theorem lotV_of (e : sqOf H x = some (ns.map V.int)) : lotV H x k = decide (lotP k ns) := by
  unfold lotV; rw [e]; dsimp only; rw [iv_map]
theorem orderV_of (e : sqOf H x = some (ns.map V.int)) : orderV H x k = decide (orderP k ns) := by
  unfold orderV; rw [e]; dsimp only; rw [iv_map]
theorem kindsB_of (e : sqOf H x = some (ns.map V.int)) : kindsB H x k = decide (inK k ns) := by
  unfold kindsB; rw [e]; exact whole_all_iff
theorem kindsB_true (h : kindsB H x k = true) : ∃ ns, sqOf H x = some (ns.map V.int) ∧ inK k ns := by
  unfold kindsB at h
  cases e : sqOf H x with
  | none => rw [e] at h; cases h
  | some xs =>
    rw [e] at h
    obtain ⟨ns, rfl, q⟩ := whole_all h
    exact ⟨ns, rfl, q⟩
theorem lotV_false (h : kindsB H x k = false) : lotV H x k = false := by
  cases e : sqOf H x with
  | none => unfold lotV; rw [e]
  | some xs =>
    cases e2 : intsV xs with
    | none => unfold lotV; rw [e]; dsimp only; rw [e2]
    | some ns =>
      obtain rfl := iv_of e2
      rw [lotV_of e, decide_eq_false]
      rintro ⟨h1, _⟩
      rw [kindsB_of e, decide_eq_true h1] at h; cases h
theorem orderV_false (h : kindsB H x k = false) : orderV H x k = false := by
  cases e : sqOf H x with
  | none => unfold orderV; rw [e]
  | some xs =>
    cases e2 : intsV xs with
    | none => unfold orderV; rw [e]; dsimp only; rw [e2]
    | some ns =>
      obtain rfl := iv_of e2
      rw [orderV_of e, decide_eq_false]
      rintro ⟨h1, _⟩
      rw [kindsB_of e, decide_eq_true h1] at h; cases h
theorem lotV_true (h : lotV H x k = true) : ∃ ns, sqOf H x = some (ns.map V.int) ∧ lotP k ns := by
  cases e : sqOf H x with
  | none => unfold lotV at h; rw [e] at h; cases h
  | some xs =>
    cases e2 : intsV xs with
    | none => unfold lotV at h; rw [e] at h; dsimp only at h; rw [e2] at h; cases h
    | some ns =>
      obtain rfl := iv_of e2
      rw [lotV_of e] at h
      exact ⟨ns, rfl, of_decide_eq_true h⟩
theorem Sq.or {K : PySem.W.Frag} {a : Addr} {xs : List V} (h : H a = some (.lst xs) ∨ H a = some (.tup xs)) : SqL K H a xs ∨ SqT K H a xs := h.elim (fun h => .inl (sqL_at h)) fun h => .inr (sqT_at h)
end
end Jv
namespace Jv
open PySem PySem.Spec PyProof.Rows L2
theorem rgV0 {k : Int} : rgV 0 k = ((List.range k.toNat).map fun (i : Nat) => (i : Int)).map V.int := by
  unfold rgV
  rw [List.map_map, Int.sub_zero]
  refine List.map_congr_left fun i _ => ?_
  show V.int (0 + (i : Int)) = V.int i
  rw [Int.zero_add]
end Jv

/-! ### pairs of two ranges; data as lists of pairs -/
namespace Jv
open PySem PySem.Spec PyProof.Rows L2
/-- references to tuples of two ints that stand -/
def Tups (H : Hp) (refs : List V) (prs : List (Int × Int)) : Prop := Paired (fun v (pr : Int × Int) => ∃ t, v = V.ref t ∧ H t = some (.tup [.int pr.1, .int pr.2])) refs prs
theorem Paired.mono' {α β : Type} {F G : α → β → Prop} (h : ∀ a b, F a b → G a b) : ∀ {xs : List α} {ys : List β}, Paired F xs ys → Paired G xs ys
  | _, _, .nil => .nil
  | _, _, .cons r t => .cons (h _ _ r) (Paired.mono' h t)
theorem Paired.snoc {α β : Type} {F : α → β → Prop} {a : α} {b : β} (h : F a b) : ∀ {xs : List α} {ys : List β}, Paired F xs ys → Paired F (xs ++ [a]) (ys ++ [b])
  | _, _, .nil => .cons h .nil
  | _, _, .cons r t => .cons r (Paired.snoc h t)
theorem Tups.same {H H' : Hp} {refs : List V} {prs : List (Int × Int)} (h : Tups H refs prs) (s : Same H H') : Tups H' refs prs := Paired.mono' (fun _ _ ⟨t, e, q⟩ => ⟨t, e, s _ _ q⟩) h
theorem Tups.upd {H : Hp} {D : Addr} {o : HO} {refs : List V} {prs : List (Int × Int)} (h : Tups H refs prs) (n : ∀ xs, H D ≠ some (.tup xs)) : Tups (L2.upd H D o) refs prs :=
  Paired.mono' (fun _ _ ⟨t, e, q⟩ => ⟨t, e, by rw [upd_ne]; exact q; intro z; rw [z] at q; exact n _ q⟩) h
def pairsTo (q i j : Nat) : List (Int × Int) := ((List.range i).flatMap fun (e : Nat) => (List.range q).map fun (w : Nat) => ((e : Int), (w : Int))) ++ (List.range j).map fun (w : Nat) => ((i : Int), (w : Int))
def prs (p q : Nat) : List (Int × Int) := pairsTo q p 0
theorem pairsTo_next (q i : Nat) : pairsTo q i q = pairsTo q (i + 1) 0 := by
  unfold pairsTo
  rw [List.range_succ, List.flatMap_append]
  simp
theorem pairsTo_more (q i j : Nat) : pairsTo q i (j + 1) = pairsTo q i j ++ [((i : Int), (j : Int))] := by
  unfold pairsTo
  rw [List.range_succ (n := j), List.map_append, List.append_assoc]; rfl
theorem pairsTo_len (q i j : Nat) : (pairsTo q i j).length = i * q + j := by
  unfold pairsTo
  rw [List.length_append, List.length_map, List.length_range]
  congr 1
  induction i with
  | zero => simp
  | succ i ih => rw [List.range_succ, List.flatMap_append, List.length_append, ih]; simp [Nat.succ_mul]
section
variable {σ : L2.St} {H : Hp} {ta tb : TA} {te : TE} {Q : VK} {a b p q : Nat}
theorem lc2R (hp : p ≤ 20) (hq : q ≤ 20) (w1 : ∀ x, wipe ((wipe σ [a, b]).set a (some x)) [a, b] = wipe σ [a, b])
    (w2 : ∀ x y, wipe ((wipe ((wipe σ [a, b]).set a (some x)) [b]).set b (some y)) [b] = wipe ((wipe σ [a, b]).set a (some x)) [b])
    (hta : ∀ P : List V → Hp → Prop, P [.int p] H → ta σ H P)
    (htb : ∀ (i : Nat) H1, i < p → Same H H1 → ∀ P : List V → Hp → Prop, P [.int q] H1 → tb ((wipe σ [a, b]).set a (some (.int i))) H1 P)
    (hte : ∀ (i j : Nat) H1, i < p → j < q → Same H H1 → ∀ P : VK, (∀ t H2, Same H1 H2 → H1 t = none → H2 t = some (.tup [.int i, .int j]) → P (.ref t) H2) → te ((wipe ((wipe σ [a, b]).set a (some (.int i))) [b]).set b (some (.int j))) H1 P)
    (hd : ∀ D refs H1, Same H H1 → H D = none → H1 D = some (.lst refs) → Tups H1 refs (prs p q) → Q (.ref D) H1) :
    tLc2 (iRng1 ta) (gName a) tYes (iRng1 tb) (gName b) tYes te [a, b] [b] σ H Q := by
  refine hta _ ⟨p, rfl, by omega, by omega, fun D hD => ?_⟩
  have key : ∀ (i j : Nat) H1, (∃ refs, Same H H1 ∧ H1 D = some (.lst refs) ∧ Tups H1 refs (pairsTo q i j)) → ∃ refs, Same H H1 ∧ H1 D = some (.lst refs) ∧ Tups H1 refs (pairsTo q i j) := fun _ _ _ h => h
  refine ⟨fun i m H1 => m = p - i ∧ i ≤ p ∧ ∃ refs, Same H H1 ∧ H1 D = some (.lst refs) ∧ Tups H1 refs (pairsTo q i 0), ⟨p, by omega, by omega, [], same_new hD, upd_same, .nil⟩, ?_⟩
  rintro i m H1 ⟨rfl, hi, refs, s1, e1, t1⟩
  by_cases lt : i < p
  · refine .inr ⟨by show i < (p : Int).toNat; omega, fun H' => ∃ refs, Same H H' ∧ H' D = some (.lst refs) ∧ Tups H' refs (pairsTo q (i + 1) 0), fun H' h => ⟨p - (i + 1), by omega, rfl, lt, h⟩, ?_⟩
    rintro x H2 ⟨rfl, rfl⟩
    rw [Int.zero_add]
    refine ⟨w1 _, r_yes (r_true (c := true) rfl ?_)⟩
    refine htb i _ lt s1 _ ⟨q, rfl, by omega, by omega, ?_⟩
    refine ⟨fun j k H1 => k = q - j ∧ j ≤ q ∧ ∃ refs, Same H H1 ∧ H1 D = some (.lst refs) ∧ Tups H1 refs (pairsTo q i j), ⟨q, by omega, by omega, refs, s1, e1, t1⟩, ?_⟩
    rintro j k H3 ⟨rfl, hj, refs, s3, e3, t3⟩
    by_cases lt2 : j < q
    · refine .inr ⟨by show j < (q : Int).toNat; omega, fun H' => ∃ refs, Same H H' ∧ H' D = some (.lst refs) ∧ Tups H' refs (pairsTo q i (j + 1)), fun H' h => ⟨q - (j + 1), by omega, rfl, lt2, h⟩, ?_⟩
      rintro y H4 ⟨rfl, rfl⟩
      rw [Int.zero_add]
      refine ⟨w2 _ _, r_yes (r_true (c := true) rfl ?_)⟩
      refine hte i j _ lt lt2 s3 _ fun t H5 s5 ht h5 => ⟨refs, s5 _ _ e3, ?_, refs ++ [.ref t], ?_, upd_same, ?_⟩
      · have h1 := Paired.length t3
        have h2 := pairsTo_len q i j
        have h3 : i * q ≤ 20 * 20 := Nat.mul_le_mul (by omega) (by omega)
        exact small_lt (by omega)
      · intro c o hc
        exact kpO (s5 _ _ (s3 _ _ hc)) (ne_of_none hc hD)
      · rw [pairsTo_more]
        refine Tups.upd (Paired.snoc ⟨t, rfl, h5⟩ (t3.same s5)) fun xs z => ?_
        have := s5 _ _ e3
        rw [this] at z; cases z
    · have ej : j = q := by omega
      subst ej
      refine .inl ⟨by show (j : Int).toNat ≤ j; omega, refs, s3, e3, ?_⟩
      rw [← pairsTo_next]; exact t3
  · have ei : i = p := by omega
    subst ei
    exact .inl ⟨by show (i : Int).toNat ≤ i; omega, hd D refs _ s1 hD e1 t1⟩
end
end Jv
namespace Jv
open PySem PySem.Spec PyProof.Rows L2
theorem log_small {m : Int} (h0 : 0 < m) (h1 : m < 2 ^ 200) : m.natAbs.log2 < 9000 := Nat.lt_trans (PySem.Flt.log2_lt_of (n := m.natAbs) (k := 200) (by decide) (by omega)) (by decide)
theorem cdivS {i m : Int} (h0 : 0 < m) (h1 : m < 2 ^ 200) : CDivW i m := ⟨h0, log_small h0 h1⟩
end Jv
namespace Jv
open PySem PySem.Spec PyProof.Rows L2
section
variable {K : PySem.W.Frag} {σ : L2.St} {H : Hp} {Q : VK} {to : TE} {t : TA} {y : V}
theorem r_bm {T : String} {r : V → List V → Hp → VK → Prop} (h : to σ H fun x H1 => tyV K T x H1 ∧ t σ H1 fun xs H2 => r x xs H2 Q) : tBM K T r to t σ H Q := h
theorem r_tyL {p : Addr} {xs : List V} {P : Prop} (h : H p = some (.lst xs)) (q : P) : tyV K "list" (.ref p) H ∧ P := ⟨.inl ⟨rfl, xs, sqL_at h⟩, q⟩
theorem r_app {l : Addr} {xs : List V} (h : H l = some (.lst xs)) (hz : xs.length < 1000) (q : Q .non (upd H l (.lst (xs ++ [y])))) : rAppend (.ref l) [y] H Q := ⟨l, xs, y, rfl, rfl, h, small_lt hz, q⟩
theorem seqIx {k : Int} {n : Nat} (h0 : 0 ≤ k) (h1 : k.toNat < n) : seqIndex? k n = some k.toNat := by
  unfold seqIndex?
  simp; omega
theorem r_popAt {l : Addr} {xs : List V} {k : Int} (h : H l = some (.lst xs)) (h0 : 0 ≤ k) (h1 : k < 1000) (e : xs[k.toNat]? = some y) (q : Q y (upd H l (.lst (xs.eraseIdx k.toNat)))) : rPopAt (.ref l) [.int k] H Q :=
  ⟨l, xs, k, k.toNat, y, rfl, rfl, h, by omega, by omega, seqIx h0 (List.getElem?_eq_some_iff.mp e).1, e, q⟩
theorem erase_perm : ∀ {l : List Int} {k : Nat} {z : Int}, l[k]? = some z → (z :: l.eraseIdx k).Perm l
  | [], k, z, h => by simp at h
  | a :: r, 0, z, h => by
    have e : a = z := Option.some.inj h
    subst e; exact .refl _
  | a :: r, k + 1, z, h => (List.Perm.swap a z _).trans (List.Perm.cons a (erase_perm (l := r) (k := k) h))
theorem pop_perm {ns ms : List Int} {k : Nat} {z : Int} (e : ms[k]? = some z) : ((ns ++ [z]) ++ ms.eraseIdx k).Perm (ns ++ ms) := by
  rw [List.append_assoc]
  exact List.Perm.append_left ns (erase_perm e)
def rgI (n : Nat) : List Int := (List.range n).map fun (i : Nat) => (i : Int)
end
theorem rises_no {ns : List Int} {k b z : Int} {i : Nat} (hz : ns[i]? = some z) (hb : b = -1 ∨ b ∈ ns.take i) (h : ¬ (b < z ∧ z < k)) : ¬ lotP k ns := fun ⟨h1, _, h3⟩ => by
  obtain ⟨a0, a1⟩ := h1 z (List.mem_of_getElem? hz)
  refine h ⟨?_, by omega⟩
  rcases hb with rfl | hb
  · omega
  · obtain ⟨hi, rfl⟩ := List.getElem?_eq_some_iff.mp hz
    rw [← List.take_append_drop i ns, List.pairwise_append] at h3
    exact h3.2.2 b hb _ (by rw [List.mem_iff_getElem]; exact ⟨0, by rw [List.length_drop]; omega, by simp⟩)
end Jv
namespace Jv
open PySem PySem.Spec PyProof.Rows L2
theorem erase_map : ∀ (l : List Int) (j : Nat), (l.map V.int).eraseIdx j = (l.eraseIdx j).map V.int
  | [], _ => rfl
  | _ :: _, 0 => rfl
  | a :: r, j + 1 => congrArg (V.int a :: ·) (erase_map r j)
end Jv

/-! ### keyword calls, dict displays, things that are refused -/
namespace Jv
open PySem PySem.Spec PyProof.Rows L2
section
variable {K : PySem.W.Frag} {σ : L2.St} {H : Hp} {t tk : TA} {te tv : TE} {Q : VK} {A B : Prop}
theorem r_callN {n m : Nat} {sp : Sp} {gV : List V → List V → List V} {E : XK} (h : t σ H fun vs H1 => tk σ H1 fun zs H2 => vs.length = n ∧ zs.length = m ∧ sp (gV vs zs) H2 Q E) : tCallN n m sp gV E t tk σ H Q := h
theorem r_disp1 {k v : Int} (q : ∀ p, H p = none → Q (.ref p) (upd H p (.dK [(.inl k, .int v)]))) : tDisp [(tC (.int k), tC (.int v))] σ H Q := fun p hp =>
  ⟨upd_same, [(.inl k, .int v)], rfl, Nat.le_of_ble_eq_true rfl, by rw [upd_upd]; exact q p hp⟩
theorem r_disp2 {k v k' v' : Int} (ne : k ≠ k') (q : ∀ p, H p = none → Q (.ref p) (upd H p (.dK [(.inl k, .int v), (.inl k', .int v')]))) : tDisp [(tC (.int k), tC (.int v)), (tC (.int k'), tC (.int v'))] σ H Q := fun p hp =>
  ⟨upd_same, [(.inl k, .int v), (.inl k', .int v')], rfl, Nat.le_of_ble_eq_true rfl, by
    rw [upd_upd]
    have e : mergeK ([] : List (Key × V)) [(.inl k, .int v), (.inl k', .int v')] = [(.inl k, .int v), (.inl k', .int v')] := by
      simp [mergeK, putK, ne]
    rw [e]; exact q p hp⟩
theorem r_same {b : Bool} (q : B) : if (!decide (b = b)) = true then A else B := r_false (by rw [decide_eq_true rfl]; rfl) q
theorem r_same' {b c : Bool} (e : b = c) (q : B) : if (!decide (b = c)) = true then A else B := by subst e; exact r_same q
/-- the same, in a condition that is not yet an if -/
theorem r_dsame {P : Bool → Prop} {b : Bool} (q : P true) : P (decide (b = b)) := by rw [decide_eq_true rfl]; exact q
theorem r_and_k {te ta : TE} {c : Bool} (h : te σ H fun x H1 => ∃ c, x = .bl c ∧ if c = true then ta σ H1 Q else Q (.bl false) H1) : tAndV te ta σ H Q := h
end
/-- a thing that is neither a lot nor an order nor sides nor a couple -/
def BadTh (H : Hp) (x : V) : Prop := ThS H x ∧ ∀ xs, sqOf H x = some xs → intsV xs = none
theorem BadTh.same {H H' : Hp} {x : V} (h : BadTh H x) (s : Same H H') : BadTh H' x := ⟨h.1.same s, fun xs e => h.2 xs (by rw [← sqOf_same h.1.1 s]; exact e)⟩
theorem BadTh.lot {H : Hp} {x : V} {k : Int} (h : BadTh H x) : lotV H x k = false := by
  unfold lotV
  cases e : sqOf H x with
  | none => rfl
  | some xs => dsimp only; rw [h.2 xs e]
theorem BadTh.order {H : Hp} {x : V} {k : Int} (h : BadTh H x) : orderV H x k = false := by
  unfold orderV
  cases e : sqOf H x with
  | none => rfl
  | some xs => dsimp only; rw [h.2 xs e]
section
variable {H : Hp}
theorem bad_sc {x : V} (h : Th H x) (n : sqOf H x = none) : BadTh H x := ⟨⟨h, fun xs q => by rw [q.of] at n; cases n⟩, fun xs e => by rw [n] at e; cases e⟩
theorem bad_dK {a : Addr} {kvs : List (Key × V)} (h : H a = some (.dK kvs)) : BadTh H (.ref a) := bad_sc (.inr (.inr ⟨_, h⟩)) (by simp [sqOf, h])
theorem bad_sq {a : Addr} {xs : List V} (h : H a = some (.lst xs) ∨ H a = some (.tup xs)) (few : xs.length ≤ 60) (th : ∀ v ∈ xs, Th H v) (n : intsV xs = none) : BadTh H (.ref a) := by
  have sq : Sq H (.ref a) xs := ⟨a, rfl, h⟩
  refine ⟨⟨sq.th, fun ys q => ?_⟩, fun ys e => ?_⟩
  · have e := q.of; rw [sq.of] at e; cases e; exact ⟨few, th⟩
  · rw [sq.of] at e; cases e; exact n
theorem thS_ints {a : Addr} {ns : List Int} (h : H a = some (.lst (ns.map V.int)) ∨ H a = some (.tup (ns.map V.int))) (few : ns.length ≤ 60) : ThS H (.ref a) := by
  have sq : Sq H (.ref a) (ns.map V.int) := ⟨a, rfl, h⟩
  refine ⟨sq.th, fun ys q => ?_⟩
  have e := q.of; rw [sq.of] at e; cases e
  refine ⟨by rw [List.length_map]; exact few, fun v hv => ?_⟩
  obtain ⟨i, _, rfl⟩ := List.mem_map.mp hv
  trivial
theorem wholeV_not {x lo hi : V} (h : isI x = false) : wholeV x lo hi = false := by
  cases x with
  | int i => cases h
  | _ => rfl
theorem shaped_bad {d : PyData} (h : PyData.canLay0 d = true) (h2 : PyData.depth d = 0) : SeqAt.shaped (.list [.str "bad", d]) = true := by
  simp [SeqAt.shaped, PyData.canLay0, PyData.depth, PyData.canLayAll0, PyData.depthAll, h, h2]; decide +kernel
end
end Jv

/-! ### the walk through a reading -/
local macro_rules | `(tactic| walk_at "r1") => `(tactic| first
  | with_reducible refine Jv.r_seq ?_
  | with_reducible refine Jv.r_asg ?_
  | with_reducible refine Jv.r_gn ?_
  | with_reducible refine Jv.r_ret ?_
  | with_reducible refine Jv.r_retN ?_
  | with_reducible refine Jv.r_drop ?_
  | with_reducible refine Jv.r_if ?_
  | with_reducible refine Jv.r_next ?_
  | with_reducible refine Jv.r_brk ?_
  | with_reducible refine Jv.r_cont ?_
  | ((with_reducible refine' Jv.r_var ?hv ?_); (case hv => rfl))
  | with_reducible refine Jv.r_c ?_
  | with_reducible refine Jv.r_op ?_
  | with_reducible refine Jv.r_un ?_
  | with_reducible refine Jv.r_I0 ?_
  | with_reducible refine Jv.r_U ?_
  | ((with_reducible refine Jv.r_eq ?hs ?_); (case hs => rfl))
  | ((with_reducible refine Jv.r_ne ?hs ?_); (case hs => rfl))
  | with_reducible refine Jv.r_test ?_
  | with_reducible refine Jv.r_B ?_
  | with_reducible refine Jv.r_bl ?_
  | with_reducible refine Jv.r_and ?_
  | with_reducible refine Jv.r_or ?_
  | with_reducible refine Jv.r_not ?_
  | with_reducible refine Jv.r_andV ?_
  | with_reducible refine Jv.r_orV ?_
  | with_reducible refine Jv.r_notV ?_
  | with_reducible refine Jv.r_ife ?_
  | with_reducible refine Jv.r_chain ?_
  | with_reducible refine Jv.r_nil ?_
  | with_reducible refine Jv.r_cons ?_
  | with_reducible refine Jv.r_tup ?_
  | with_reducible refine Jv.r_lst ?_
  | with_reducible refine Jv.r_CB ?_
  | with_reducible refine Jv.r_call ?_
  | with_reducible refine Jv.r_callS ?_
  | with_reducible refine Jv.r_for ?_
  | with_reducible refine Jv.r_iR1 ?_
  | with_reducible refine Jv.r_iR2 ?_
  | with_reducible refine Jv.r_sub ?_
  | with_reducible refine Jv.r_int ?_)
local macro_rules | `(tactic| walk_at "r") => `(tactic| (repeat walk_at "r1"))

local macro_rules | `(tactic| walk_at "cond") => `(tactic| first
  | exact Or.inr ⟨by decide, by decide⟩
  | exact Or.inl ⟨by decide, by decide⟩
  | exact ⟨by decide, by decide⟩
  | exact ⟨by assumption, by assumption⟩
  | exact ⟨by decide, by decide, by decide⟩
  | (show (0 : Int) < _; first | decide | omega)
  | exact Jv.cdivS (by omega) (by omega)
  | exact Or.inr ⟨by omega, by omega⟩
  | exact Or.inl ⟨by omega, by omega⟩)
local macro_rules | `(tactic| walk_at "r1") => `(tactic| ((with_reducible refine Jv.r_I ?hc ?_); (case hc => walk_at "cond")))

local macro_rules | `(tactic| walk_at "ne") => `(tactic| first
  | assumption
  | exact Ne.symm (by assumption)
  | exact L2.ne_of_none (by walk_at "hp") (by assumption)
  | exact Ne.symm (L2.ne_of_none (by walk_at "hp") (by assumption)))
local macro_rules | `(tactic| walk_at "hp") => `(tactic| first
  | assumption
  | exact L2.upd_same
  | ((refine' Jv.kp ?hp1 ?hp2); (case hp2 => assumption); (case hp1 => walk_at "hp"))
  | ((refine' Jv.kpO ?hp1 ?hp2); (case hp1 => walk_at "hp"); (case hp2 => walk_at "ne")))
local macro_rules | `(tactic| walk_at "sq") => `(tactic| first
  | assumption
  | ((refine' Jv.sqT_at ?sq1); (case sq1 => walk_at "hp"))
  | ((refine' Jv.sqL_at ?sq1); (case sq1 => walk_at "hp"))
  | ((refine' Jv.sqT_new ?sq1 ?sq2); (case sq2 => assumption); (case sq1 => walk_at "sq"))
  | ((refine' Jv.sqL_new ?sq1 ?sq2); (case sq2 => assumption); (case sq1 => walk_at "sq"))
  | ((refine' L2.Same.seq ?sq1 ?sq2); (case sq1 => assumption); (case sq2 => assumption))
  | ((refine' Jv.Same.sqT ?sq1 ?sq2); (case sq1 => assumption); (case sq2 => assumption)))
local macro_rules | `(tactic| walk_at "r1") => `(tactic| first
  | ((with_reducible refine' Jv.r_gtup ?hq ?hl ?_); (case hq => walk_at "sq"); (case hl => rfl))
  | with_reducible refine Jv.r_gcons ?_
  | with_reducible refine Jv.r_gnil ?_
  | with_reducible refine Jv.r_iEn ?_
  | with_reducible refine Jv.r_iL ?_
  | with_reducible refine Jv.r_iT ?_
  | with_reducible refine Jv.r_yes ?_
  | with_reducible refine Jv.r_ift ?_
  | with_reducible refine Jv.r_iff ?_
  | ((with_reducible refine' Jv.r_new ?hn ?_); (case hn => exact Nat.le_of_ble_eq_true rfl))
  | ((with_reducible refine' Jv.r_wipe ?he ?_); (case he => rfl)))
local macro_rules | `(tactic| walk_at "len") => `(tactic| first
  | exact Or.inl (by walk_at "sq")
  | exact Or.inr (by walk_at "sq"))
local macro_rules | `(tactic| walk_at "r1") => `(tactic| first
  | ((with_reducible refine' Jv.r_ixL ?hs ?he ?_); (case hs => walk_at "sq"); (case he => rfl))
  | ((with_reducible refine' Jv.r_ixT ?hs ?he ?_); (case hs => walk_at "sq"); (case he => rfl))
  | ((with_reducible refine' Jv.r_setL ?hs ?he ?_); (case hs => walk_at "hp"); (case he => rfl))
  | ((with_reducible refine' Jv.r_len ?hs ?_); (case hs => walk_at "len")))
local macro_rules | `(tactic| walk_at "th") => `(tactic| first
  | assumption
  | exact Jv.Th.same (by assumption) (by assumption)
  | exact Jv.Th.same (by assumption) (Jv.same_new (by assumption))
  | exact trivial)
local macro_rules | `(tactic| walk_at "r1") => `(tactic| first
  | ((with_reducible refine' Jv.r_isB ?hx ?_); (case hx => walk_at "th"))
  | ((with_reducible refine' Jv.r_isI ?hx ?_); (case hx => walk_at "th"))
  | ((with_reducible refine' Jv.r_isS ?hp ?hx ?_); (case hp => walk_at "hp"); (case hx => walk_at "th"))
  | ((with_reducible refine' Jv.r_false ?he ?_); (case he => rfl))
  | ((with_reducible refine' Jv.r_true ?he ?_); (case he => rfl))
  | with_reducible refine Jv.r_rfl ?_)
local macro_rules | `(tactic| walk_at "r2") => `(tactic| first
  | walk_at "r1"
  | ((with_reducible refine' Jv.r_dec1 ?hd ?_); (case hd => omega))
  | ((with_reducible refine' Jv.r_dec0 ?hd ?_); (case hd => omega))
  | with_reducible refine Jv.r_decI (fun _ => ?_) (fun _ => ?_)
  | with_reducible refine Jv.r_ndecI (fun _ => ?_) (fun _ => ?_)
  | with_reducible refine Jv.r_dec (fun _ => ?_) (fun _ => ?_)
  | with_reducible refine Jv.r_ndec (fun _ => ?_) (fun _ => ?_))
local macro_rules | `(tactic| walk_at "rr") => `(tactic| (repeat' walk_at "r2"))
local macro_rules | `(tactic| walk_at "r1") => `(tactic| first
  | with_reducible refine Jv.r_min ?_
  | with_reducible refine Jv.r_max ?_
  | with_reducible refine Jv.r_absN ?_
  | with_reducible refine Jv.r_intN ?_)
local macro_rules | `(tactic| walk_at "r1") => `(tactic| first
  | with_reducible refine Jv.r_bm ?_
  | ((with_reducible refine' Jv.r_tyL ?hp ?_); (case hp => walk_at "hp")))

local macro_rules | `(tactic| walk_at "r1") => `(tactic| first
  | with_reducible refine Jv.r_callN ?_
  | with_reducible refine Jv.r_disp1 ?_
  | with_reducible refine Jv.r_same ?_)

namespace K01
open PySem PySem.Spec PyProof.Rows L2
def topS (i : Nat) : Stmt := PySem.Challenge.pw_risingcalls_k01_whole_basics_by_all_smal.main.body.getD i (.Pass ⟨0, 0, 0, 0⟩)
abbrev s_BadLotu_initu : Stmt := inClass (topS 3) 0
abbrev s_is_whole : Stmt := topS 12
abbrev s_is_sequence : Stmt := topS 13
abbrev s_other_side : Stmt := topS 14
abbrev s_check_side : Stmt := topS 15
abbrev s_are_sides : Stmt := topS 16
abbrev s_couples_of : Stmt := topS 17
abbrev s_check_couple : Stmt := topS 18
abbrev s_are_kinds : Stmt := topS 19
abbrev s_is_lot : Stmt := topS 20
abbrev s_check_lot : Stmt := topS 21
abbrev s_is_order : Stmt := topS 22
abbrev s_Lmix : Stmt := topS 24
abbrev s_Lhand : Stmt := topS 25
abbrev s_Ldraw : Stmt := topS 26
abbrev s_Lcouples : Stmt := topS 27
abbrev s_Lis : Stmt := topS 28
abbrev s_Lwide_sides : Stmt := topS 29
abbrev s_Lorder : Stmt := topS 30
abbrev s_Llot_told : Stmt := topS 31
abbrev s_Lcouple_told : Stmt := topS 32
abbrev s_Lside_told : Stmt := topS 33
abbrev s_Lrises : Stmt := topS 34
abbrev s_Lnumbers_right : Stmt := topS 35
abbrev s_Llots_right : Stmt := topS 36
abbrev s_Lorders_right : Stmt := topS 37
abbrev s_law : Stmt := topS 38
theorem sc_BadLotu_initu : FnScope ["self", "side"] ["self", "side"] (defScope s_BadLotu_initu) := ⟨rfl, rfl, rfl, by decide +kernel, rfl, by decide +kernel, by decide +kernel⟩
theorem sc_is_whole : FnScope ["thing", "low", "high"] ["thing", "low", "high"] (defScope s_is_whole) := ⟨rfl, rfl, rfl, by decide +kernel, rfl, by decide +kernel, by decide +kernel⟩
theorem sc_is_sequence : FnScope ["thing"] ["thing"] (defScope s_is_sequence) := ⟨rfl, rfl, rfl, by decide +kernel, rfl, by decide +kernel, by decide +kernel⟩
theorem sc_other_side : FnScope ["side"] ["side"] (defScope s_other_side) := ⟨rfl, rfl, rfl, by decide +kernel, rfl, by decide +kernel, by decide +kernel⟩
theorem sc_check_side : FnScope ["side"] ["side"] (defScope s_check_side) := ⟨rfl, rfl, rfl, by decide +kernel, rfl, by decide +kernel, by decide +kernel⟩
theorem sc_are_sides : FnScope ["thing", "kinds"] ["thing"] (defScope s_are_sides) := ⟨rfl, rfl, rfl, by decide +kernel, rfl, by decide +kernel, by decide +kernel⟩
theorem sc_couples_of : FnScope ["sides", "east", "west"] ["sides"] (defScope s_couples_of) := ⟨rfl, rfl, rfl, by decide +kernel, rfl, by decide +kernel, by decide +kernel⟩
theorem sc_check_couple : FnScope ["sides", "couple", "side"] ["sides", "couple"] (defScope s_check_couple) := ⟨rfl, rfl, rfl, by decide +kernel, rfl, by decide +kernel, by decide +kernel⟩
theorem sc_are_kinds : FnScope ["thing", "kinds", "kind"] ["thing", "kinds"] (defScope s_are_kinds) := ⟨rfl, rfl, rfl, by decide +kernel, rfl, by decide +kernel, by decide +kernel⟩
theorem sc_is_lot : FnScope ["thing", "kinds"] ["thing", "kinds"] (defScope s_is_lot) := ⟨rfl, rfl, rfl, by decide +kernel, rfl, by decide +kernel, by decide +kernel⟩
theorem sc_check_lot : FnScope ["lot", "kinds", "side"] ["lot", "kinds", "side"] (defScope s_check_lot) := ⟨rfl, rfl, rfl, by decide +kernel, rfl, by decide +kernel, by decide +kernel⟩
theorem sc_is_order : FnScope ["thing", "many"] ["thing", "many"] (defScope s_is_order) := ⟨rfl, rfl, rfl, by decide +kernel, rfl, by decide +kernel, by decide +kernel⟩
theorem sc_Lmix : FnScope ["_law_number", "_law_turn", "_law_once", "_law_twice"] ["_law_number", "_law_turn"] (defScope s_Lmix) := ⟨rfl, rfl, rfl, by decide +kernel, rfl, by decide +kernel, by decide +kernel⟩
theorem sc_Lhand : FnScope ["_law_script", "_law_total", "_law_k", "_law_cell"] ["_law_script"] (defScope s_Lhand) := ⟨rfl, rfl, rfl, by decide +kernel, rfl, by decide +kernel, by decide +kernel⟩
theorem sc_Ldraw : FnScope ["_law_hand_here", "_law_many", "_law_cell", "_law_rest"] ["_law_hand_here", "_law_many"] (defScope s_Ldraw) := ⟨rfl, rfl, rfl, by decide +kernel, rfl, by decide +kernel, by decide +kernel⟩
theorem sc_Lcouples : FnScope ["_law_sides", "_law_couples_here", "_law_east", "_law_west"] ["_law_sides"] (defScope s_Lcouples) := ⟨rfl, rfl, rfl, by decide +kernel, rfl, by decide +kernel, by decide +kernel⟩
theorem sc_Lis : FnScope ["_law_thing", "_law_due"] ["_law_thing", "_law_due"] (defScope s_Lis) := ⟨rfl, rfl, rfl, by decide +kernel, rfl, by decide +kernel, by decide +kernel⟩
theorem sc_Lwide_sides : FnScope ["_law_hand_here", "_law_p", "_law_q"] ["_law_hand_here"] (defScope s_Lwide_sides) := ⟨rfl, rfl, rfl, by decide +kernel, rfl, by decide +kernel, by decide +kernel⟩
theorem sc_Lorder : FnScope ["_law_hand_here", "_law_many", "_law_left", "_law_order_here", "_law_turn"] ["_law_hand_here", "_law_many"] (defScope s_Lorder) := ⟨rfl, rfl, rfl, by decide +kernel, rfl, by decide +kernel, by decide +kernel⟩
theorem sc_Llot_told : FnScope ["_law_lot", "_law_kinds", "_law_side", "e"] ["_law_lot", "_law_kinds", "_law_side"] (defScope s_Llot_told) := ⟨rfl, rfl, rfl, by decide +kernel, rfl, by decide +kernel, by decide +kernel⟩
theorem sc_Lcouple_told : FnScope ["_law_sides", "_law_couple"] ["_law_sides", "_law_couple"] (defScope s_Lcouple_told) := ⟨rfl, rfl, rfl, by decide +kernel, rfl, by decide +kernel, by decide +kernel⟩
theorem sc_Lside_told : FnScope ["_law_side"] ["_law_side"] (defScope s_Lside_told) := ⟨rfl, rfl, rfl, by decide +kernel, rfl, by decide +kernel, by decide +kernel⟩
theorem sc_Lrises : FnScope ["_law_numbers", "_law_kinds", "_law_before", "_law_number"] ["_law_numbers", "_law_kinds"] (defScope s_Lrises) := ⟨rfl, rfl, rfl, by decide +kernel, rfl, by decide +kernel, by decide +kernel⟩
theorem sc_Lnumbers_right : FnScope ["_law_hand_here", "_law_turn", "_law_number", "_law_low", "_law_high", "_law_due", "_law_thing"] ["_law_hand_here"] (defScope s_Lnumbers_right) := ⟨rfl, rfl, rfl, by decide +kernel, rfl, by decide +kernel, by decide +kernel⟩
theorem sc_Llots_right : FnScope ["_law_hand_here", "_law_kinds", "_law_side", "_law_tries", "_law_mask", "_law_lot", "_law_turn", "_law_due", "_law_told", "_law_thing", "_law_kind", "_law_bit", "_law_place"] ["_law_hand_here"] (defScope s_Llots_right) := ⟨rfl, rfl, rfl, by decide +kernel, rfl, by decide +kernel, by decide +kernel⟩
theorem sc_Lorders_right : FnScope ["_law_hand_here", "_law_turn", "_law_many", "_law_order_here", "_law_bent", "_law_truth", "_law_thing", "_law_kind"] ["_law_hand_here"] (defScope s_Lorders_right) := ⟨rfl, rfl, rfl, by decide +kernel, rfl, by decide +kernel, by decide +kernel⟩
theorem sc_law : FnScope ["_law_script", "_law_hand_here", "_law_p", "_law_q", "_law_due", "_law_thing", "_law_sides", "_law_east", "_law_west", "_law_told", "_law_far", "_law_side"] ["_law_script"] (defScope s_law) := ⟨rfl, rfl, rfl, by decide +kernel, rfl, by decide +kernel, by decide +kernel⟩
structure Tx where
  f_BadLotu_initu : Addr
  d_BadLotu_initu : FuncData
  f_is_whole : Addr
  d_is_whole : FuncData
  f_is_sequence : Addr
  d_is_sequence : FuncData
  f_other_side : Addr
  d_other_side : FuncData
  f_check_side : Addr
  d_check_side : FuncData
  f_are_sides : Addr
  d_are_sides : FuncData
  f_couples_of : Addr
  d_couples_of : FuncData
  f_check_couple : Addr
  d_check_couple : FuncData
  f_are_kinds : Addr
  d_are_kinds : FuncData
  f_is_lot : Addr
  d_is_lot : FuncData
  f_check_lot : Addr
  d_check_lot : FuncData
  f_is_order : Addr
  d_is_order : FuncData
  f_Lmix : Addr
  d_Lmix : FuncData
  f_Lhand : Addr
  d_Lhand : FuncData
  f_Ldraw : Addr
  d_Ldraw : FuncData
  f_Lcouples : Addr
  d_Lcouples : FuncData
  f_Lis : Addr
  d_Lis : FuncData
  f_Lwide_sides : Addr
  d_Lwide_sides : FuncData
  f_Lorder : Addr
  d_Lorder : FuncData
  f_Llot_told : Addr
  d_Llot_told : FuncData
  f_Lcouple_told : Addr
  d_Lcouple_told : FuncData
  f_Lside_told : Addr
  d_Lside_told : FuncData
  f_Lrises : Addr
  d_Lrises : FuncData
  f_Lnumbers_right : Addr
  d_Lnumbers_right : FuncData
  f_Llots_right : Addr
  d_Llots_right : FuncData
  f_Lorders_right : Addr
  d_Lorders_right : FuncData
  f_law : Addr
  d_law : FuncData
  C_CallError : Addr
  C_BadCouple : Addr
  C_BadLot : Addr
  C_BadSide : Addr
  t_EAST : Tok
  t_WEST : Tok
  t_STOP : Tok
  t_LADDER_MOST : Tok
  t_KINDS_MOST : Tok
  t_COUPLES_MOST : Tok
  e1_is_whole : List Value
  e2_is_whole : List Value
structure Ok (K : PySem.W.Frag) (mg : Str → Option Value) (T : Tx) : Prop where
  F_BadLotu_initu : Fun K "__init__" "BadLot.__init__" s_BadLotu_initu T.f_BadLotu_initu T.d_BadLotu_initu
  b_BadLotu_initu : Binds K T.d_BadLotu_initu ["self", "side"] []
  F_is_whole : FunD K "is_whole" "is_whole" (defArgs s_is_whole) (defBody s_is_whole) (defScope s_is_whole) [.non, .non] [] T.f_is_whole T.d_is_whole
  m_is_whole : mg "is_whole" = some (.ref T.f_is_whole)
  b_is_whole : Binds K T.d_is_whole ["thing", "low", "high"] []
  b1_is_whole : Vals [.non] T.e1_is_whole ∧ Binds K T.d_is_whole ["thing", "low", "high"] T.e1_is_whole
  b2_is_whole : Vals [.non, .non] T.e2_is_whole ∧ Binds K T.d_is_whole ["thing", "low", "high"] T.e2_is_whole
  F_is_sequence : Fun K "is_sequence" "is_sequence" s_is_sequence T.f_is_sequence T.d_is_sequence
  m_is_sequence : mg "is_sequence" = some (.ref T.f_is_sequence)
  b_is_sequence : Binds K T.d_is_sequence ["thing"] []
  F_other_side : Fun K "other_side" "other_side" s_other_side T.f_other_side T.d_other_side
  m_other_side : mg "other_side" = some (.ref T.f_other_side)
  b_other_side : Binds K T.d_other_side ["side"] []
  F_check_side : Fun K "check_side" "check_side" s_check_side T.f_check_side T.d_check_side
  m_check_side : mg "check_side" = some (.ref T.f_check_side)
  b_check_side : Binds K T.d_check_side ["side"] []
  F_are_sides : Fun K "are_sides" "are_sides" s_are_sides T.f_are_sides T.d_are_sides
  m_are_sides : mg "are_sides" = some (.ref T.f_are_sides)
  b_are_sides : Binds K T.d_are_sides ["thing"] []
  F_couples_of : Fun K "couples_of" "couples_of" s_couples_of T.f_couples_of T.d_couples_of
  m_couples_of : mg "couples_of" = some (.ref T.f_couples_of)
  b_couples_of : Binds K T.d_couples_of ["sides"] []
  F_check_couple : Fun K "check_couple" "check_couple" s_check_couple T.f_check_couple T.d_check_couple
  m_check_couple : mg "check_couple" = some (.ref T.f_check_couple)
  b_check_couple : Binds K T.d_check_couple ["sides", "couple"] []
  F_are_kinds : Fun K "are_kinds" "are_kinds" s_are_kinds T.f_are_kinds T.d_are_kinds
  m_are_kinds : mg "are_kinds" = some (.ref T.f_are_kinds)
  b_are_kinds : Binds K T.d_are_kinds ["thing", "kinds"] []
  F_is_lot : Fun K "is_lot" "is_lot" s_is_lot T.f_is_lot T.d_is_lot
  m_is_lot : mg "is_lot" = some (.ref T.f_is_lot)
  b_is_lot : Binds K T.d_is_lot ["thing", "kinds"] []
  F_check_lot : Fun K "check_lot" "check_lot" s_check_lot T.f_check_lot T.d_check_lot
  m_check_lot : mg "check_lot" = some (.ref T.f_check_lot)
  b_check_lot : Binds K T.d_check_lot ["lot", "kinds", "side"] []
  F_is_order : Fun K "is_order" "is_order" s_is_order T.f_is_order T.d_is_order
  m_is_order : mg "is_order" = some (.ref T.f_is_order)
  b_is_order : Binds K T.d_is_order ["thing", "many"] []
  F_Lmix : Fun K "_law_mix" "_law_mix" s_Lmix T.f_Lmix T.d_Lmix
  m_Lmix : mg "_law_mix" = some (.ref T.f_Lmix)
  b_Lmix : Binds K T.d_Lmix ["_law_number", "_law_turn"] []
  F_Lhand : Fun K "_law_hand" "_law_hand" s_Lhand T.f_Lhand T.d_Lhand
  m_Lhand : mg "_law_hand" = some (.ref T.f_Lhand)
  b_Lhand : Binds K T.d_Lhand ["_law_script"] []
  F_Ldraw : Fun K "_law_draw" "_law_draw" s_Ldraw T.f_Ldraw T.d_Ldraw
  m_Ldraw : mg "_law_draw" = some (.ref T.f_Ldraw)
  b_Ldraw : Binds K T.d_Ldraw ["_law_hand_here", "_law_many"] []
  F_Lcouples : Fun K "_law_couples" "_law_couples" s_Lcouples T.f_Lcouples T.d_Lcouples
  m_Lcouples : mg "_law_couples" = some (.ref T.f_Lcouples)
  b_Lcouples : Binds K T.d_Lcouples ["_law_sides"] []
  F_Lis : Fun K "_law_is" "_law_is" s_Lis T.f_Lis T.d_Lis
  m_Lis : mg "_law_is" = some (.ref T.f_Lis)
  b_Lis : Binds K T.d_Lis ["_law_thing", "_law_due"] []
  F_Lwide_sides : Fun K "_law_wide_sides" "_law_wide_sides" s_Lwide_sides T.f_Lwide_sides T.d_Lwide_sides
  m_Lwide_sides : mg "_law_wide_sides" = some (.ref T.f_Lwide_sides)
  b_Lwide_sides : Binds K T.d_Lwide_sides ["_law_hand_here"] []
  F_Lorder : Fun K "_law_order" "_law_order" s_Lorder T.f_Lorder T.d_Lorder
  m_Lorder : mg "_law_order" = some (.ref T.f_Lorder)
  b_Lorder : Binds K T.d_Lorder ["_law_hand_here", "_law_many"] []
  F_Llot_told : Fun K "_law_lot_told" "_law_lot_told" s_Llot_told T.f_Llot_told T.d_Llot_told
  m_Llot_told : mg "_law_lot_told" = some (.ref T.f_Llot_told)
  b_Llot_told : Binds K T.d_Llot_told ["_law_lot", "_law_kinds", "_law_side"] []
  F_Lcouple_told : Fun K "_law_couple_told" "_law_couple_told" s_Lcouple_told T.f_Lcouple_told T.d_Lcouple_told
  m_Lcouple_told : mg "_law_couple_told" = some (.ref T.f_Lcouple_told)
  b_Lcouple_told : Binds K T.d_Lcouple_told ["_law_sides", "_law_couple"] []
  F_Lside_told : Fun K "_law_side_told" "_law_side_told" s_Lside_told T.f_Lside_told T.d_Lside_told
  m_Lside_told : mg "_law_side_told" = some (.ref T.f_Lside_told)
  b_Lside_told : Binds K T.d_Lside_told ["_law_side"] []
  F_Lrises : Fun K "_law_rises" "_law_rises" s_Lrises T.f_Lrises T.d_Lrises
  m_Lrises : mg "_law_rises" = some (.ref T.f_Lrises)
  b_Lrises : Binds K T.d_Lrises ["_law_numbers", "_law_kinds"] []
  F_Lnumbers_right : Fun K "_law_numbers_right" "_law_numbers_right" s_Lnumbers_right T.f_Lnumbers_right T.d_Lnumbers_right
  m_Lnumbers_right : mg "_law_numbers_right" = some (.ref T.f_Lnumbers_right)
  b_Lnumbers_right : Binds K T.d_Lnumbers_right ["_law_hand_here"] []
  F_Llots_right : Fun K "_law_lots_right" "_law_lots_right" s_Llots_right T.f_Llots_right T.d_Llots_right
  m_Llots_right : mg "_law_lots_right" = some (.ref T.f_Llots_right)
  b_Llots_right : Binds K T.d_Llots_right ["_law_hand_here"] []
  F_Lorders_right : Fun K "_law_orders_right" "_law_orders_right" s_Lorders_right T.f_Lorders_right T.d_Lorders_right
  m_Lorders_right : mg "_law_orders_right" = some (.ref T.f_Lorders_right)
  b_Lorders_right : Binds K T.d_Lorders_right ["_law_hand_here"] []
  F_law : Fun K "law" "law" s_law T.f_law T.d_law
  m_law : mg "law" = some (.ref T.f_law)
  b_law : Binds K T.d_law ["_law_script"] []
  m_CallError : mg "CallError" = some (.ref T.C_CallError)
  e_CallError : Jv.ExcP K T.C_CallError
  m_BadCouple : mg "BadCouple" = some (.ref T.C_BadCouple)
  e_BadCouple : Jv.ExcP K T.C_BadCouple
  m_BadLot : mg "BadLot" = some (.ref T.C_BadLot)
  x_BadLot : Jv.ExcI K T.C_BadLot T.f_BadLotu_initu
  m_BadSide : mg "BadSide" = some (.ref T.C_BadSide)
  e_BadSide : Jv.ExcP K T.C_BadSide
  z_ValueError : mg "ValueError" = none
  z_abs : mg "abs" = none
  z_all : mg "all" = none
  z_bool : mg "bool" = none
  z_enumerate : mg "enumerate" = none
  z_int : mg "int" = none
  z_isinstance : mg "isinstance" = none
  z_len : mg "len" = none
  z_list : mg "list" = none
  z_min : mg "min" = none
  z_range : mg "range" = none
  z_set : mg "set" = none
  z_sorted : mg "sorted" = none
  z_tuple : mg "tuple" = none
  c_EAST : mg "EAST" = some (.int (0) T.t_EAST)
  c_WEST : mg "WEST" = some (.int (1) T.t_WEST)
  c_STOP : mg "STOP" = some (.int (0) T.t_STOP)
  c_LADDER_MOST : mg "LADDER_MOST" = some (.int (6) T.t_LADDER_MOST)
  c_KINDS_MOST : mg "KINDS_MOST" = some (.int (6) T.t_KINDS_MOST)
  c_COUPLES_MOST : mg "COUPLES_MOST" = some (.int (12) T.t_COUPLES_MOST)
  n_BadLot_side : PySem.W.findIn K (.ref T.C_BadLot) "side" = some none
  kb1_high_is_whole : KBn K T.d_is_whole ["thing", "low", "high"] 1 ["high"] (fun us ws => us ++ [T.e2_is_whole.getD 0 .none] ++ ws) (fun vs zs => vs ++ [.non] ++ zs)
end K01

namespace K01
open PySem PySem.Spec PyProof.Rows L2
/-! ### the law's draws: any number below the bound may come -/
def sp_Lmix : Sp := fun vs H Q _ => ∃ n t : Int, vs = [.int n, .int t] ∧ (0 ≤ n ∧ n < 2147483648 ∧ 0 ≤ t ∧ t ≤ 1000) ∧ ∀ r : Int, 0 ≤ r → r < 134217728 → Q (.int r) H
theorem mix_end (z : Int) : 0 ≤ z % 2147483563 / 16 ∧ z % 2147483563 / 16 < 134217728 := by omega
section
variable {P : Program} {w : World} {K : PySem.W.Frag} {mg : Str → Option Value} {base : Heap}
theorem ok_Lmix (T : Tx) (O : Ok K mg T) : FnOk P w K mg base CX0 1 T.f_Lmix T.d_Lmix ["_law_number", "_law_turn"] sp_Lmix := by
  refine O.F_Lmix.ok sc_Lmix (fun vs H Q E h => by obtain ⟨n, t, rfl, _⟩ := h; rfl) (fun cdv A outer s H vs Q E hr h => ?_)
  obtain ⟨n, t, rfl, ⟨h1, h2, h3, h4⟩, q⟩ := h
  refine ⟨_, (pss_cons (ps_set (i := 2) sc_Lmix.nd rfl (Or.inl rfl) (pe_op op_mod (pe_callTy (r := Jv.rInt) Jv.cr_int (by rfl) O.z_int (by decide +kernel) (pa_cons (pe_op op_add (pe_op op_add (pe_op op_mul (pv 0) pe_int) (pe_op op_mul (pv 1) pe_int)) pe_int) pa_nil)) pe_int))
  (pss_cons (ps_set (i := 3) sc_Lmix.nd rfl (Or.inl rfl) (pe_op op_mod (pe_callTy (r := Jv.rInt) Jv.cr_int (by rfl) O.z_int (by decide +kernel) (pa_cons (pe_op op_add (pe_op op_add (pe_op op_mul (pv 2) (pv 2)) (pe_op op_mul (pe_op op_fdivW (pv 2) pe_int) pe_int)) (pe_op op_mul (pv 1) pe_int)) pa_nil)) pe_int))
  (pss_one (ps_ret (pe_op op_fdivW (pe_op op_mod (pe_callTy (r := Jv.rInt) Jv.cr_int (by rfl) O.z_int (by decide +kernel) (pa_cons (pe_op op_add (pe_op op_fdivW (pe_op op_mul (pv 3) (pv 3)) pe_int) (pv 2)) pa_nil)) pe_int) pe_int))))), ?_⟩
  walk_at "r"
  exact q _ (mix_end _).1 (mix_end _).2
end
end K01

namespace Jv
open PySem PySem.Spec PyProof.Rows L2
/-! ### the hand: numbers still to be used, a place, a rest, a total -/
structure HandAt (H : Hp) (p l : Addr) (ns : List Int) (k c t : Int) : Prop where
  hp : H p = some (.lst [.ref l, .int k, .int c, .int t])
  hl : H l = some (.lst (ns.map V.int))
  nn : ∀ n ∈ ns, 0 ≤ n
  few : ns.length ≤ 63
  bd : 0 ≤ k ∧ k ≤ ns.length ∧ 0 ≤ c ∧ 0 ≤ t ∧ t < 2147483629
def Hand (H : Hp) (p l : Addr) : Prop := ∃ ns k c t, HandAt H p l ns k c t
theorem HandAt.ne {H : Hp} {p l : Addr} {ns : List Int} {k c t : Int} (h : HandAt H p l ns k c t) : l ≠ p := fun e => by
  have q := h.hp
  rw [← e, h.hl] at q
  have q2 := HO.lst.inj (Option.some.inj q)
  cases ns with
  | nil => cases q2
  | cons a r => cases q2
/-- all but what stands at p is as it was -/
def Kp (p : Addr) (H H' : Hp) : Prop := ∀ b o, b ≠ p → H b = some o → H' b = some o
theorem Kp.refl {p : Addr} {H : Hp} : Kp p H H := fun _ _ _ e => e
theorem Kp.trans {p : Addr} {H H1 H2 : Hp} (a : Kp p H H1) (b : Kp p H1 H2) : Kp p H H2 := fun c o n e => b c o n (a c o n e)
theorem Kp.same {p : Addr} {H H' : Hp} (a : Same H H') : Kp p H H' := fun c o _ e => a c o e
theorem Kp.upd {p : Addr} {H : Hp} {o : HO} : Kp p H (upd H p o) := fun c u n e => by rw [upd_ne n]; exact e
theorem Kp.new {p q : Addr} {H : Hp} {o : HO} (n : H q = none) : Kp p H (L2.upd H q o) := Kp.same (same_new n)
theorem Hand.same {H H' : Hp} {p l : Addr} (h : Hand H p l) (s : Same H H') : Hand H' p l := by
  obtain ⟨ns, k, c, t, h⟩ := h
  exact ⟨ns, k, c, t, s _ _ h.hp, s _ _ h.hl, h.nn, h.few, h.bd⟩
theorem Hand.at {H : Hp} {p l : Addr} (h : Hand H p l) : ∃ o, H p = some o := by
  obtain ⟨ns, k, c, t, h⟩ := h
  exact ⟨_, h.hp⟩
theorem Hand.set {H : Hp} {p l : Addr} {ns : List Int} {k c t k' c' t' : Int} (h : HandAt H p l ns k c t) (b : 0 ≤ k' ∧ k' ≤ ns.length ∧ 0 ≤ c' ∧ 0 ≤ t' ∧ t' < 2147483629) :
    HandAt (upd H p (.lst [.ref l, .int k', .int c', .int t'])) p l ns k' c' t' :=
  ⟨upd_same, by rw [upd_ne h.ne]; exact h.hl, h.nn, h.few, b⟩
end Jv
namespace K01
open PySem PySem.Spec PyProof.Rows L2
def sp_Lhand (K : PySem.W.Frag) : Sp := fun vs H Q _ => ∃ (a : Addr) (ns : List Int), vs = [.ref a] ∧ SqL K H a (ns.map V.int) ∧ ns.length ≤ 63 ∧ ∀ p l H', Same H H' → H p = none → Jv.Hand H' p l → Q (.ref p) H'
section
variable {P : Program} {w : World} {K : PySem.W.Frag} {mg : Str → Option Value} {base : Heap}
theorem ok_Lhand (T : Tx) (O : Ok K mg T) : FnOk P w K mg base CX0 1 T.f_Lhand T.d_Lhand ["_law_script"] (sp_Lhand K) := by
  refine O.F_Lhand.ok sc_Lhand (fun vs H Q E h => by obtain ⟨a, ns, rfl, _⟩ := h; rfl) (fun cdv A outer s H vs Q E hr h => ?_)
  obtain ⟨a, ns, rfl, hS, few, q⟩ := h
  refine ⟨_, (pss_cons (ps_set (i := 1) sc_Lhand.nd rfl (Or.inl rfl) pe_int)
  (pss_cons (ps_for PassesOwn.never rfl (show PI _ _ _ (iEnum K _) from pi_enum (by rfl) O.z_enumerate (pa_cons (pv 0) pa_nil)) (pg_tup rfl (pgs_cons (pg_name (i := 2) sc_Lhand.nd rfl (Or.inl rfl)) (pgs_cons (pg_name (i := 3) sc_Lhand.nd rfl (Or.inl rfl)) pgs_nil))) (pss_one (ps_set (i := 1) sc_Lhand.nd rfl (Or.inl rfl) (pe_op op_mod (pe_callTy (r := Jv.rInt) Jv.cr_int (by rfl) O.z_int (by decide +kernel) (pa_cons (pe_op op_add (pe_op op_mul (pv 1) pe_int) (pe_op op_mul (pe_callTy (r := Jv.rInt) Jv.cr_int (by rfl) O.z_int (by decide +kernel) (pa_cons (pv 3) pa_nil)) (pe_op op_add (pv 2) pe_int))) pa_nil)) pe_int))))
  (pss_one (ps_ret (pe_lst (pa_cons (pe_lc (own := [("_law_cell", 3)]) (by rfl) sc_Lhand.nd (show PI _ _ _ (iList K _) from pi_list (pv 0)) (blkOk_by (own := [("_law_cell", 3)]) (N := ["_law_script", "_law_total", "_law_k", "_law_cell"]) (sc := defScope s_Lhand) (by decide +kernel)) (fun _ _ _ _ _ => (pg_name (i := 3) sc_Lhand.nd rfl (Or.inl rfl))) (fun _ _ _ _ _ => pts_nil) (fun _ _ _ _ _ => (pe_callB (r := Jv.rAbs) Jv.cr_abs (by rfl) O.z_abs (by decide +kernel) (pa_cons (pe_callTy (r := Jv.rInt) Jv.cr_int (by rfl) O.z_int (by decide +kernel) (pa_cons (pv 3) pa_nil)) pa_nil)))) (pa_cons pe_int (pa_cons pe_int (pa_cons (pv 1) pa_nil))))))))), ?_⟩
  walk_at "r"
  refine ⟨_, _, rfl, hS, ?_⟩
  refine for_it (walk_enum (K := K) (a := a) (xs := ns.map V.int)) (fun i σ H' => ∃ y2 y3 tot, σ = [some (.ref a), some (.int tot), y2, y3] ∧ (0 ≤ tot ∧ tot < 2147483629) ∧ Same H H') ⟨_, _, 0, rfl, by decide, fun _ _ e => e⟩ (fun i σ H' _ ⟨_, _, _, _, _, sm⟩ => sm.seq hS) ?_ ?_
  · rintro i x σ H1 H2 hi ⟨y2, y3, tot, rfl, hb, sm⟩ ⟨p, x1, x2, rfl, hp, rfl, hx, hy⟩
    cases hx
    obtain ⟨z, hz, rfl⟩ := Jv.map_at (show (ns.map V.int)[i]? = some x2 from hy)
    rw [List.length_map] at hi
    walk_at "r"
    exact ⟨_, _, _, rfl, by omega, sm.trans (Jv.same_new hp)⟩
  · rintro σ H' ⟨y2, y3, tot, rfl, hb, sm⟩
    walk_at "r"
    refine ⟨_, rfl, _, rfl, ⟨_, sm.seq hS⟩, fun p hp => ?_⟩
    refine lc_it (walk_list (K := K) (a := a) (xs := ns.map V.int)) (fun i H1 => ∃ zs : List Int, Same H H1 ∧ H1 p = some (.lst (zs.map V.int)) ∧ zs.length = i ∧ ∀ z ∈ zs, 0 ≤ z) ⟨[], sm.trans (Jv.same_new hp), upd_same, rfl, by simp⟩ (fun i H1 _ ⟨_, s1, _⟩ => s1.seq hS) ?_ ?_
    · rintro i x H1 H2 hi ⟨zs, s1, e1, hl, nn⟩ ⟨rfl, hx⟩
      obtain ⟨z, hz, rfl⟩ := Jv.map_at hx
      rw [List.length_map] at hi
      walk_at "r"
      refine ⟨zs.map V.int, e1, ?_, zs ++ [if z < 0 then -z else z], ?_, ?_, ?_, ?_⟩
      · rw [List.length_map, hl]; exact Jv.small_lt (by omega)
      · intro b o e; exact Jv.kpO (s1 b o e) (ne_of_none (sm b o e) hp)
      · rw [upd_same, List.map_append]; rfl
      · rw [List.length_append, hl]; rfl
      · intro y hy
        rcases List.mem_append.mp hy with hy | hy
        · exact nn y hy
        · rw [List.mem_singleton.mp hy]; split <;> omega
    · rintro H1 ⟨zs, s1, e1, hl, nn⟩
      walk_at "r"
      intro p2 hp2
      rw [List.length_map] at hl
      exact q p2 p _ (s1.trans (Jv.same_new hp2)) (s1.free hp2) ⟨zs, 0, 0, tot, upd_same, Jv.kp e1 hp2, nn, by omega, by omega⟩
end
end K01

namespace K01
open PySem PySem.Spec PyProof.Rows L2
def sp_Ldraw : Sp := fun vs H Q _ => ∃ (p l : Addr) (m : Int), vs = [.ref p, .int m] ∧ Jv.Hand H p l ∧ (0 < m ∧ m.natAbs.log2 < 9000) ∧ ∀ r H', 0 ≤ r → r < m → Jv.Kp p H H' → Jv.Hand H' p l → Q (.int r) H'
section
variable {P : Program} {w : World} {K : PySem.W.Frag} {mg : Str → Option Value} {base : Heap}
theorem ok_Ldraw (T : Tx) (O : Ok K mg T) : FnOk P w K mg base CX0 2 T.f_Ldraw T.d_Ldraw ["_law_hand_here", "_law_many"] sp_Ldraw := by
  refine O.F_Ldraw.ok sc_Ldraw (fun vs H Q E h => by obtain ⟨_, _, _, rfl, _⟩ := h; rfl) (fun cdv A outer s H vs Q E hr h => ?_)
  obtain ⟨p, l, m, rfl, ⟨ns, k, c, t, hA⟩, ⟨m0, m1⟩, q⟩ := h
  obtain ⟨hp, hl, nn, few, b1, b2, b3, b4, b5⟩ := id hA
  have nlp := hA.ne
  have e0 : ∀ z : Int, 0 ≤ z % m := fun z => Int.emod_nonneg _ (by omega)
  have e1 : ∀ z : Int, z % m < m := fun z => Int.emod_lt_of_pos _ m0
  refine ⟨_, (C8.pss_cut (ps_if (PW.pt (pw_and (pt_cmpR op_eq (pe_ix (r := rIxL K) ix_list (pv 0) pe_int (fun _ _ => rfl)) pe_int (nomark _)) (pw_and1 (pt_cmpR op_lt (pe_ix (r := rIxL K) ix_list (pv 0) pe_int (fun _ _ => rfl)) (pe_callB (r := Jv.rLenK K) Jv.cr_len (by rfl) O.z_len (by decide +kernel) (pa_cons (pe_ix (r := rIxL K) ix_list (pv 0) pe_int (fun _ _ => rfl)) pa_nil)) (nomark _))))) (pss_cons (ps_set (i := 2) sc_Ldraw.nd rfl (Or.inl rfl) (pe_ix (r := rIxL K) ix_list (pe_ix (r := rIxL K) ix_list (pv 0) pe_int (fun _ _ => rfl)) (pe_ix (r := rIxL K) ix_list (pv 0) pe_int (fun _ _ => rfl)) (fun _ _ => rfl)))
  (pss_cons (ps_asg (pe_op op_add (pe_ix (r := rIxL K) ix_list (pv 0) pe_int (fun _ _ => rfl)) pe_int) (pg_sub (pv 0) pe_int set_list))
  (pss_cons (ps_if (pt_cmpR op_lt (pv 2) (pe_op op_pow pe_int pe_int) (nomark _)) (pss_one (ps_ret (pe_op op_mod (pe_callTy (r := Jv.rInt) Jv.cr_int (by rfl) O.z_int (by decide +kernel) (pa_cons (pe_call (ok_Lmix T O) (hr.mono (by decide)) (by rfl) O.m_Lmix O.F_Lmix.kp O.b_Lmix .nil pass0 (pa_cons (pe_op op_mod (pe_callTy (r := Jv.rInt) Jv.cr_int (by rfl) O.z_int (by decide +kernel) (pa_cons (pv 2) pa_nil)) pe_int) (pa_cons (pe_ix (r := rIxL K) ix_list (pv 0) pe_int (fun _ _ => rfl)) pa_nil))) pa_nil)) (pv 1)))) pss_nil)
  (pss_one (ps_asg (pv 2) (pg_sub (pv 0) pe_int set_list)))))) pss_nil)
  (pss_cons (ps_if (pt_cmpR op_gt (pe_ix (r := rIxL K) ix_list (pv 0) pe_int (fun _ _ => rfl)) pe_int (nomark _)) (pss_cons (ps_set (i := 3) sc_Ldraw.nd rfl (Or.inl rfl) (pe_ix (r := rIxL K) ix_list (pv 0) pe_int (fun _ _ => rfl)))
  (pss_cons (ps_asg (pe_op op_fdivW (pv 3) (pv 1)) (pg_sub (pv 0) pe_int set_list))
  (pss_one (ps_ret (pe_op op_mod (pe_callTy (r := Jv.rInt) Jv.cr_int (by rfl) O.z_int (by decide +kernel) (pa_cons (pv 3) pa_nil)) (pv 1)))))) pss_nil)
  (pss_cons (ps_asg (pe_op op_mod (pe_callTy (r := Jv.rInt) Jv.cr_int (by rfl) O.z_int (by decide +kernel) (pa_cons (pe_op op_add (pe_ix (r := rIxL K) ix_list (pv 0) pe_int (fun _ _ => rfl)) pe_int) pa_nil)) pe_int) (pg_sub (pv 0) pe_int set_list))
  (pss_one (ps_ret (pe_op op_mod (pe_callTy (r := Jv.rInt) Jv.cr_int (by rfl) O.z_int (by decide +kernel) (pa_cons (pe_call (ok_Lmix T O) (hr.mono (by decide)) (by rfl) O.m_Lmix O.F_Lmix.kp O.b_Lmix .nil pass0 (pa_cons (pe_ix (r := rIxL K) ix_list (pv 0) pe_int (fun _ _ => rfl)) (pa_cons (pe_ix (r := rIxL K) ix_list (pv 0) pe_int (fun _ _ => rfl)) pa_nil))) pa_nil)) (pv 1))))))), ?_⟩
  refine ⟨fun σ' H' => ∃ k c t y2 y3, σ' = [some (.ref p), some (.int m), y2, y3] ∧ Jv.HandAt H' p l ns k c t ∧ Jv.Kp p H H', ?_, ?_⟩
  · walk_at "r"
    refine Jv.r_decI (fun hc => ?_) (fun hc => ?_)
    · walk_at "r"
      refine Jv.r_dec (fun hk => ?_) (fun hk => ?_)
      · rw [List.length_map] at hk
        have hk2 : k.toNat < ns.length := by omega
        have at1 : atI (ns.map V.int) k = some (.int ns[k.toNat]) := Jv.at_i b1 (Jv.map_get hk2)
        have n0 := nn ns[k.toNat] (List.getElem_mem _)
        generalize ns[k.toNat] = z at at1 n0
        walk_at "r"
        refine' Jv.r_ixL ?hs at1 ?_
        case hs => walk_at "sq"
        walk_at "r"
        refine Jv.r_dec (fun hz => ?_) (fun hz => ?_)
        · walk_at "r"
          refine ⟨_, _, rfl, ⟨by omega, by omega, by omega, by omega⟩, fun r h1 h2 => ?_⟩
          walk_at "r"
          exact q _ _ (e0 _) (e1 _) Jv.Kp.upd ⟨_, _, _, _, Jv.Hand.set hA ⟨by omega, by omega, b3, b4, b5⟩⟩
        · walk_at "r"
          exact ⟨k + 1, z, t, _, _, rfl, Jv.Hand.set (Jv.Hand.set hA ⟨by omega, by omega, b3, b4, b5⟩) ⟨by omega, by omega, n0, b4, b5⟩, Jv.Kp.upd.trans Jv.Kp.upd⟩
      · walk_at "r"
        exact ⟨k, c, t, _, _, rfl, hA, Jv.Kp.refl⟩
    · walk_at "r"
      exact ⟨k, c, t, _, _, rfl, hA, Jv.Kp.refl⟩
  · rintro σ' H' ⟨k, c, t, y2, y3, rfl, hB, kp⟩
    obtain ⟨hp, hl, nn, few, b1, b2, b3, b4, b5⟩ := id hB
    walk_at "r"
    refine Jv.r_dec (fun hc => ?_) (fun hc => ?_)
    · walk_at "r"
      refine q _ _ (e0 _) (e1 _) (kp.trans Jv.Kp.upd) ⟨_, _, _, _, Jv.Hand.set hB ⟨b1, b2, Int.ediv_nonneg b3 (by omega), b4, b5⟩⟩
    · walk_at "r"
      refine ⟨_, _, rfl, ⟨by omega, by omega, b1, by omega⟩, fun r h1 h2 => ?_⟩
      walk_at "r"
      exact q _ _ (e0 _) (e1 _) (kp.trans Jv.Kp.upd) ⟨_, _, _, _, Jv.Hand.set hB ⟨b1, b2, b3, by omega, by omega⟩⟩
end
end K01

namespace K01
open PySem PySem.Spec PyProof.Rows L2
/-! ### whole numbers, sequences, sides -/
def sp_is_whole : Sp := fun vs H Q _ => ∃ x lo hi, vs = [x, lo, hi] ∧ Jv.Th H x ∧ Jv.Bd lo ∧ Jv.Bd hi ∧ Q (.bl (Jv.wholeV x lo hi)) H
def sp_is_sequence : Sp := fun vs H Q _ => ∃ x, vs = [x] ∧ Jv.Th H x ∧ ∀ H', Same H H' → Q (.bl (Jv.sqOf H x).isSome) H'
def sp_other_side : Sp := fun vs H Q _ => ∃ i : Int, vs = [.int i] ∧ Q (.int (if i = 0 then 1 else 0)) H
section
variable {P : Program} {w : World} {K : PySem.W.Frag} {mg : Str → Option Value} {base : Heap}
theorem ok_is_whole (T : Tx) (O : Ok K mg T) : FnOk P w K mg base CX0 1 T.f_is_whole T.d_is_whole ["thing", "low", "high"] sp_is_whole := by
  refine O.F_is_whole.ok sc_is_whole (fun vs H Q E h => by obtain ⟨_, _, _, rfl, _⟩ := h; rfl) (fun cdv A outer s H vs Q E hr h => ?_)
  obtain ⟨x, lo, hi, rfl, hx, hlo, hhi, q⟩ := h
  refine ⟨_, (pss_cons (ps_if (PW.pt (pw_or (pt_val (pe_callB (r := rIsi K) call_isi (by rfl) O.z_isinstance (by decide +kernel) (pa_cons (pv 0) (pa_cons (pe_bltn (v := .ty "bool") (by rfl) O.z_bool (by decide +kernel) rfl) pa_nil)))) (pw_or1 (pt_not (pt_val (pe_callB (r := rIsi K) call_isi (by rfl) O.z_isinstance (by decide +kernel) (pa_cons (pv 0) (pa_cons (pe_bltn (v := .ty "int") (by rfl) O.z_int (by decide +kernel) rfl) pa_nil)))))))) (pss_one (ps_ret pe_bl)) pss_nil)
  (pss_cons (ps_if (PW.pt (pw_and (pt_cmpR op_notN (pv 1) pe_non (nomark _)) (pw_and1 (pt_cmpR op_lt (pv 0) (pv 1) (nomark _))))) (pss_one (ps_ret pe_bl)) pss_nil)
  (pss_one (ps_ret (pe_or (pe_cmpR op_isN (pv 2) pe_non (nomark _)) (pe_one (pe_cmpR op_le (pv 0) (pv 2) (nomark _)))))))), ?_⟩
  walk_at "r"
  cases x with
  | int i =>
    rcases hlo with rfl | ⟨a, rfl⟩
    · rcases hhi with rfl | ⟨b, rfl⟩ <;> walk_at "r" <;> exact q
    · by_cases h : i < a
      · rw [Jv.wholeV_lo0 h] at q
        walk_at "rr" <;> exact q
      · rw [Jv.wholeV_lo1 h] at q
        rcases hhi with rfl | ⟨b, rfl⟩ <;> walk_at "rr" <;> exact q
  | _ => walk_at "r"; exact q
theorem ok_is_sequence (T : Tx) (O : Ok K mg T) : FnOk P w K mg base CX0 1 T.f_is_sequence T.d_is_sequence ["thing"] sp_is_sequence := by
  refine O.F_is_sequence.ok sc_is_sequence (fun vs H Q E h => by obtain ⟨_, rfl, _⟩ := h; rfl) (fun cdv A outer s H vs Q E hr h => ?_)
  obtain ⟨x, rfl, hx, q⟩ := h
  refine ⟨_, (pss_one (ps_ret (pe_callB (r := rIsiT K) call_isiT (by rfl) O.z_isinstance (by decide +kernel) (pa_cons (pv 0) (pa_cons (pe_tup (pa_cons (pe_bltn (v := .ty "list") (by rfl) O.z_list (by decide +kernel) rfl) (pa_cons (pe_bltn (v := .ty "tuple") (by rfl) O.z_tuple (by decide +kernel) rfl) pa_nil))) pa_nil))))), ?_⟩
  walk_at "r"
  intro p hp
  walk_at "r"
  rw [Jv.sqOf_same hx (Jv.same_new hp)]
  exact q _ (Jv.same_new hp)
theorem ok_other_side (T : Tx) (O : Ok K mg T) : FnOk P w K mg base CX0 1 T.f_other_side T.d_other_side ["side"] sp_other_side := by
  refine O.F_other_side.ok sc_other_side (fun vs H Q E h => by obtain ⟨_, rfl, _⟩ := h; rfl) (fun cdv A outer s H vs Q E hr h => ?_)
  obtain ⟨i, rfl, q⟩ := h
  refine ⟨_, (pss_one (ps_ret (pe_ifExp (pt_cmpR op_eq (pv 0) (pe_glob (v := .int (0)) (by rfl) O.c_EAST ⟨_, rfl⟩) (nomark _)) (pe_glob (v := .int (1)) (by rfl) O.c_WEST ⟨_, rfl⟩) (pe_glob (v := .int (0)) (by rfl) O.c_EAST ⟨_, rfl⟩)))), ?_⟩
  walk_at "r"
  refine Jv.r_decI (fun hc => ?_) (fun hc => ?_)
  · walk_at "r"
    rw [if_pos hc] at q; exact q
  · walk_at "r"
    rw [if_neg hc] at q; exact q
end
end K01

namespace K01
open PySem PySem.Spec PyProof.Rows L2
/-! ### sides, kinds, lots, orders -/
def sp_check_side (C : Addr) : Sp := fun vs H Q E => ∃ x, vs = [x] ∧ Jv.Th H x ∧ (Jv.wholeV x (.int 0) (.int 1) = true → Q x H) ∧ (Jv.wholeV x (.int 0) (.int 1) = false → E (.ref C) none H)
def sidesV (H : Hp) (x : V) : Bool := match Jv.sqOf H x with
  | some [.int p, .int q] => decide ((1 ≤ p ∧ p ≤ 6) ∧ (1 ≤ q ∧ q ≤ 6) ∧ p * q ≤ 12)
  | _ => false
def sp_are_sides : Sp := fun vs H Q _ => ∃ x, vs = [x] ∧ Jv.ThS H x ∧ ∀ H', Same H H' → Q (.bl (sidesV H x)) H'
def sp_are_kinds : Sp := fun vs H Q _ => ∃ x k, vs = [x, .int k] ∧ Jv.ThS H x ∧ ∀ H', Same H H' → Q (.bl (Jv.kindsB H x k)) H'
def sp_is_lot : Sp := fun vs H Q _ => ∃ x k, vs = [x, .int k] ∧ Jv.ThS H x ∧ ∀ H', Same H H' → Q (.bl (Jv.lotV H x k)) H'
def sp_is_order : Sp := fun vs H Q _ => ∃ x k, vs = [x, .int k] ∧ Jv.ThS H x ∧ (0 ≤ k ∧ k ≤ 60) ∧ ∀ H', Same H H' → Q (.bl (Jv.orderV H x k)) H'
def sp_BadLot_init (C : Addr) : Sp := fun vs H Q _ => ∃ a v, vs = [.ref a, v] ∧ H a = some (exo a C none) ∧ ∀ d, H d = none → d ≠ a → Q .non (upd (upd H d (exd d [("side", v)])) a (exo a C (some d)))
def sp_check_lot (C : Addr) : Sp := fun vs H Q E => ∃ x k v, vs = [x, .int k, v] ∧ Jv.ThS H x ∧
  (Jv.lotV H x k = true → ∀ p xs H', Same H H' → Jv.Sq H x xs → H' p = some (.tup xs) → Q (.ref p) H') ∧
  (Jv.lotV H x k = false → ∀ d H', Same H H' → H' d = some (.xd [("side", v)]) → E (.ref C) (some d) H')
section
variable {P : Program} {w : World} {K : PySem.W.Frag} {mg : Str → Option Value} {base : Heap}
theorem ok_check_side (T : Tx) (O : Ok K mg T) : FnOk P w K mg base (L2.CX P w) 2 T.f_check_side T.d_check_side ["side"] (sp_check_side T.C_BadSide) := by
  refine O.F_check_side.okX sc_check_side (fun vs H Q E h => by obtain ⟨_, rfl, _⟩ := h; rfl) (fun cdv A outer s H vs Q E hr h => ?_)
  obtain ⟨x, rfl, hx, q1, q2⟩ := h
  refine ⟨_, (pss_cons (ps_if (pt_not (pt_val (pe_call (ok_is_whole T O) (hr.mono (by decide)) (by rfl) O.m_is_whole O.F_is_whole.kp O.b_is_whole .nil pass0 (pa_cons (pv 0) (pa_cons (pe_glob (v := .int (0)) (by rfl) O.c_EAST ⟨_, rfl⟩) (pa_cons (pe_glob (v := .int (1)) (by rfl) O.c_WEST ⟨_, rfl⟩) pa_nil)))))) (pss_one (ps_raise rfl (takes_of rfl rfl rfl rfl) (Jv.pmk_own0 PySem.F.excBase_ValueError O.e_BadSide.x O.m_BadSide O.e_BadSide.k (O.e_BadSide.raises) (by rfl)))) pss_nil)
  (pss_one (ps_ret (pv 0)))), ?_⟩
  walk_at "r"
  refine ⟨_, _, _, rfl, hx, .inr ⟨_, rfl⟩, .inr ⟨_, rfl⟩, ?_⟩
  walk_at "r"
  cases e : Jv.wholeV x (.int 0) (.int 1) with
  | true => walk_at "r"; exact q1 e
  | false => walk_at "r"; exact q2 e
theorem ok_are_sides (T : Tx) (O : Ok K mg T) : FnOk P w K mg base CX0 2 T.f_are_sides T.d_are_sides ["thing"] sp_are_sides := by
  refine O.F_are_sides.ok sc_are_sides (fun vs H Q E h => by obtain ⟨_, rfl, _⟩ := h; rfl) (fun cdv A outer s H vs Q E hr h => ?_)
  obtain ⟨x, rfl, hx, q⟩ := h
  refine ⟨_, (pss_cons (ps_if (PW.pt (pw_or (pt_not (pt_val (pe_call (ok_is_sequence T O) (hr.mono (by decide)) (by rfl) O.m_is_sequence O.F_is_sequence.kp O.b_is_sequence .nil pass0 (pa_cons (pv 0) pa_nil)))) (pw_or1 (pt_cmpR op_ne (pe_callB (r := Jv.rLenK K) Jv.cr_len (by rfl) O.z_len (by decide +kernel) (pa_cons (pv 0) pa_nil)) pe_int (nomark _))))) (pss_one (ps_ret pe_bl)) pss_nil)
  (pss_cons (ps_if (pt_not (pt_val (pe_callB (r := rAll K) (cr_all rfl) (by rfl) O.z_all (by decide +kernel) (pa_cons (pe_lc (own := [("kinds", 1)]) (by rfl) sc_are_sides.nd (Jv.piOr (show PI _ _ _ (iList K _) from pi_list (pv 0)) (show PI _ _ _ (iTup K _) from pi_tup (pv 0))) (blkOk_by (own := [("kinds", 1)]) (N := ["thing", "kinds"]) (sc := defScope s_are_sides) (by decide +kernel)) (fun _ _ _ _ _ => (pg_name (i := 1) sc_are_sides.nd rfl (Or.inl rfl))) (fun _ _ _ _ _ => pts_nil) (fun _ _ _ _ _ => (pe_call (ok_is_whole T O) (hr.mono (by decide)) (by rfl) O.m_is_whole O.F_is_whole.kp O.b_is_whole .nil pass0 (pa_cons (pv 1) (pa_cons pe_int (pa_cons (pe_glob (v := .int (6)) (by rfl) O.c_KINDS_MOST ⟨_, rfl⟩) pa_nil)))))) pa_nil)))) (pss_one (ps_ret pe_bl)) pss_nil)
  (pss_one (ps_ret (pe_cmpR op_le (pe_op op_mul (pe_ix (r := rIx K) ix_seq (pv 0) (pe_glob (v := .int (0)) (by rfl) O.c_EAST ⟨_, rfl⟩) (fun _ _ => rfl)) (pe_ix (r := rIx K) ix_seq (pv 0) (pe_glob (v := .int (1)) (by rfl) O.c_WEST ⟨_, rfl⟩) (fun _ _ => rfl))) (pe_glob (v := .int (12)) (by rfl) O.c_COUPLES_MOST ⟨_, rfl⟩) (nomark _)))))), ?_⟩
  walk_at "r"
  refine ⟨_, rfl, hx.1, fun H1 s1 => ?_⟩
  walk_at "r"
  cases e : Jv.sqOf H x with
  | none =>
    have e2 : sidesV H x = false := by unfold sidesV; rw [e]
    rw [e2] at q
    walk_at "r"; exact q _ s1
  | some xs =>
    have sq := (Jv.sq_some e).same s1
    obtain ⟨few, th⟩ := hx.2 xs (Jv.sq_some e)
    walk_at "r"
    refine sq.len ?_
    walk_at "r"
    refine Jv.r_ndecI (fun hl => ?_) (fun hl => ?_)
    · have e2 : sidesV H x = false := by
        unfold sidesV; rw [e]
        split
        · rename_i q e3; cases e3; exact absurd rfl hl
        · rfl
      rw [e2] at q
      walk_at "r"; exact q _ s1
    · walk_at "r"
      obtain ⟨y, z, rfl⟩ : ∃ y z, xs = [y, z] := by
        match xs, hl with
        | [y, z], _ => exact ⟨y, z, rfl⟩
        | [], h => simp at h
        | [_], h => simp at h
        | _ :: _ :: _ :: r, h => simp at h; omega
      refine Jv.lcS (j := 1) (i := 0) rfl sq (fun v => .bl (Jv.wholeV v (.int 1) (.int 6))) (by simp) (fun v H2 m s2 P hP => ?_) (fun D H2 s2 hD eD => ?_)
      · walk_at "r"
        exact ⟨_, _, _, rfl, (th v m).same (s1.trans s2), .inr ⟨_, rfl⟩, .inr ⟨_, rfl⟩, hP _ (Same.refl _)⟩
      · walk_at "r"
        refine Jv.r_all eD ?_
        walk_at "r"
        cases eb : [y, z].all fun v => Jv.wholeV v (.int 1) (.int 6) with
        | false =>
          have e2 : sidesV H x = false := by
            unfold sidesV; rw [e]
            split
            · rename_i p q e3
              cases e3
              refine decide_eq_false fun hh => ?_
              have : ([V.int p, V.int q].all fun v => Jv.wholeV v (.int 1) (.int 6)) = true := by
                simp [Jv.wholeV, Jv.loOk, Jv.hiOk]; omega
              rw [this] at eb; cases eb
            · rfl
          rw [e2] at q
          walk_at "r"; exact q _ (s1.trans s2)
        | true =>
          rw [List.all_cons, List.all_cons, Bool.and_eq_true, Bool.and_eq_true] at eb
          obtain ⟨p, rfl, p1, p2⟩ := Jv.wholeV_int eb.1
          obtain ⟨r, rfl, r1, r2⟩ := Jv.wholeV_int eb.2.1
          have e2 : sidesV H x = decide (p * r ≤ 12) := by
            unfold sidesV; rw [e]
            show decide _ = decide _
            congr 1
            exact propext ⟨fun h => h.2.2, fun h => ⟨⟨p1, p2⟩, ⟨r1, r2⟩, h⟩⟩
          rw [e2] at q
          have sq2 := sq.same s2
          walk_at "r"
          refine sq2.ix (v := .int p) rfl ?_
          walk_at "r"
          refine sq2.ix (v := .int r) rfl ?_
          walk_at "r"
          exact q _ (s1.trans s2)
theorem ok_are_kinds (T : Tx) (O : Ok K mg T) : FnOk P w K mg base CX0 2 T.f_are_kinds T.d_are_kinds ["thing", "kinds"] sp_are_kinds := by
  refine O.F_are_kinds.ok sc_are_kinds (fun vs H Q E h => by obtain ⟨_, _, rfl, _⟩ := h; rfl) (fun cdv A outer s H vs Q E hr h => ?_)
  obtain ⟨x, k, rfl, hx, q⟩ := h
  refine ⟨_, (pss_one (ps_ret (pe_and (pe_call (ok_is_sequence T O) (hr.mono (by decide)) (by rfl) O.m_is_sequence O.F_is_sequence.kp O.b_is_sequence .nil pass0 (pa_cons (pv 0) pa_nil)) (pe_one (pe_callB (r := rAll K) (cr_all rfl) (by rfl) O.z_all (by decide +kernel) (pa_cons (pe_lc (own := [("kind", 2)]) (by rfl) sc_are_kinds.nd (Jv.piOr (show PI _ _ _ (iList K _) from pi_list (pv 0)) (show PI _ _ _ (iTup K _) from pi_tup (pv 0))) (blkOk_by (own := [("kind", 2)]) (N := ["thing", "kinds", "kind"]) (sc := defScope s_are_kinds) (by decide +kernel)) (fun _ _ _ _ _ => (pg_name (i := 2) sc_are_kinds.nd rfl (Or.inl rfl))) (fun _ _ _ _ _ => pts_nil) (fun _ _ _ _ _ => (pe_call (ok_is_whole T O) (hr.mono (by decide)) (by rfl) O.m_is_whole O.F_is_whole.kp O.b_is_whole .nil pass0 (pa_cons (pv 2) (pa_cons pe_int (pa_cons (pe_op op_sub (pv 1) pe_int) pa_nil)))))) pa_nil)))))), ?_⟩
  walk_at "r"
  refine ⟨_, rfl, hx.1, fun H1 s1 => ?_⟩
  walk_at "r"
  cases e : Jv.sqOf H x with
  | none =>
    have e2 : Jv.kindsB H x k = false := by unfold Jv.kindsB; rw [e]
    rw [e2] at q
    walk_at "r"; exact q _ s1
  | some xs =>
    have e2 : Jv.kindsB H x k = xs.all fun v => Jv.wholeV v (.int 0) (.int (k - 1)) := by unfold Jv.kindsB; rw [e]
    rw [e2] at q
    obtain ⟨few, th⟩ := hx.2 xs (Jv.sq_some e)
    walk_at "r"
    refine Jv.lcS (j := 2) (i := 0) rfl ((Jv.sq_some e).same s1) (fun v => .bl (Jv.wholeV v (.int 0) (.int (k - 1)))) (by omega) (fun v H2 m s2 P hP => ?_) (fun D H2 s2 hD eD => ?_)
    · walk_at "r"
      exact ⟨_, _, _, rfl, (th v m).same (s1.trans s2), .inr ⟨_, rfl⟩, .inr ⟨_, rfl⟩, hP _ (Same.refl _)⟩
    · walk_at "r"
      exact Jv.r_all eD (q _ (s1.trans s2))
theorem ok_is_lot (T : Tx) (O : Ok K mg T) : FnOk P w K mg base CX0 3 T.f_is_lot T.d_is_lot ["thing", "kinds"] sp_is_lot := by
  refine O.F_is_lot.ok sc_is_lot (fun vs H Q E h => by obtain ⟨_, _, rfl, _⟩ := h; rfl) (fun cdv A outer s H vs Q E hr h => ?_)
  obtain ⟨x, k, rfl, hx, q⟩ := h
  refine ⟨_, (pss_one (ps_ret (pe_and (pe_call (ok_are_kinds T O) (hr.mono (by decide)) (by rfl) O.m_are_kinds O.F_are_kinds.kp O.b_are_kinds .nil pass0 (pa_cons (pv 0) (pa_cons (pv 1) pa_nil))) (pe_and (pe_cmpR op_gt (pe_callB (r := Jv.rLenK K) Jv.cr_len (by rfl) O.z_len (by decide +kernel) (pa_cons (pv 0) pa_nil)) pe_int (nomark _)) (pe_one (pe_cmpR (r := rEqD K) (op_eqD hr.units) (pe_callTy (r := Jv.rListOf K) call_list_of (by rfl) O.z_list (by decide +kernel) (pa_cons (pv 0) pa_nil)) (pe_callB (r := rSortedSet w) (cr_sortedSet rfl) (by rfl) O.z_sorted (by decide +kernel) (pa_cons (pe_callTy (r := Jv.rSetI K w) (Jv.cr_setI rfl) (by rfl) O.z_set (by decide +kernel) (pa_cons (pv 0) pa_nil)) pa_nil)) (nomark _))))))), ?_⟩
  walk_at "r"
  refine ⟨_, _, rfl, hx, fun H1 s1 => ?_⟩
  walk_at "r"
  cases ek : Jv.kindsB H x k with
  | false =>
    rw [Jv.lotV_false ek] at q
    walk_at "r"; exact q _ s1
  | true =>
    obtain ⟨ns, e, hk⟩ := Jv.kindsB_true ek
    have sq := (Jv.sq_some e).same s1
    obtain ⟨few, _⟩ := hx.2 _ (Jv.sq_some e)
    rw [Jv.lotV_of e] at q
    walk_at "r"
    refine sq.len ?_
    walk_at "r"
    rw [List.length_map] at few ⊢
    refine Jv.r_dec (fun h0 => ?_) (fun h0 => ?_)
    · walk_at "r"
      obtain ⟨a, rfl, hq⟩ := sq
      refine ⟨a, _, rfl, Jv.Sq.or hq, fun l hl => ?_⟩
      walk_at "r"
      refine ⟨a, ns, rfl, Jv.Sq.or (hq.imp (fun h => Jv.kp h hl) fun h => Jv.kp h hl), by omega, fun p c hp hc => ?_⟩
      walk_at "r"
      refine ⟨p, _, c, rfl, upd_same, by omega, fun ms r hs hm _ hr => ?_⟩
      walk_at "r"
      refine ⟨_, _, Jv.dpL (by walk_at "sq"), Jv.dpL (by walk_at "sq"), Jv.shapedL _, Jv.shapedL _, ?_⟩
      rw [Jv.eqvL]
      have e3 : decide (Jv.lotP k ns) = decide (ns = ms) := by
        have h1 := Jv.set_eq hs hm
        have : Jv.lotP k ns ↔ ns = ms := ⟨fun h => h1.mpr h.2.2, fun h => ⟨hk, by omega, h1.mp h⟩⟩
        simp only [this]
      rw [e3] at q
      exact q _ (((s1.trans (Jv.same_new hl)).trans (Jv.same_new hp)).trans (Jv.same_new hr))
    · rw [decide_eq_false (p := Jv.lotP k ns) fun h => h0 (by have := h.2.1; omega)] at q
      walk_at "r"; exact q _ s1
theorem ok_is_order (T : Tx) (O : Ok K mg T) : FnOk P w K mg base CX0 3 T.f_is_order T.d_is_order ["thing", "many"] sp_is_order := by
  refine O.F_is_order.ok sc_is_order (fun vs H Q E h => by obtain ⟨_, _, rfl, _⟩ := h; rfl) (fun cdv A outer s H vs Q E hr h => ?_)
  obtain ⟨x, k, rfl, hx, ⟨k0, k1⟩, q⟩ := h
  refine ⟨_, (pss_one (ps_ret (pe_and (pe_call (ok_are_kinds T O) (hr.mono (by decide)) (by rfl) O.m_are_kinds O.F_are_kinds.kp O.b_are_kinds .nil pass0 (pa_cons (pv 0) (pa_cons (pv 1) pa_nil))) (pe_one (pe_cmpR (r := rEqD K) (op_eqD hr.units) (pe_callB (r := Jv.rSortIT K) Jv.cr_sortIT (by rfl) O.z_sorted (by decide +kernel) (pa_cons (pv 0) pa_nil)) (pe_listRg rfl (by rfl) O.z_list (prg_1 (by rfl) O.z_range (pv 1))) (nomark _)))))), ?_⟩
  walk_at "r"
  refine ⟨_, _, rfl, hx, fun H1 s1 => ?_⟩
  walk_at "r"
  cases ek : Jv.kindsB H x k with
  | false =>
    rw [Jv.orderV_false ek] at q
    walk_at "r"; exact q _ s1
  | true =>
    obtain ⟨ns, e, hk⟩ := Jv.kindsB_true ek
    obtain ⟨a, rfl, hq⟩ := (Jv.sq_some e).same s1
    rw [Jv.orderV_of e] at q
    walk_at "r"
    refine ⟨a, ns, rfl, Jv.Sq.or hq, fun ms r pm so hr => ?_⟩
    refine ⟨_, rfl, k, rfl, RgOk.of_le (by omega) (by omega) (by omega) (by omega), fun l hl => ?_⟩
    walk_at "r"
    rw [Jv.rgV0]
    refine ⟨_, _, Jv.dpL (by walk_at "sq"), Jv.dpL (by walk_at "sq"), Jv.shapedL _, Jv.shapedL _, ?_⟩
    rw [Jv.eqvL]
    have e3 : decide (Jv.orderP k ns) = decide (ms = (List.range k.toNat).map fun (i : Nat) => (i : Int)) := by
      have : Jv.orderP k ns ↔ ms = (List.range k.toNat).map fun (i : Nat) => (i : Int) :=
        ⟨fun h => Jv.sorted_perm so (Jv.range_sorted _) (pm.trans h.2), fun h => ⟨hk, by rw [← h]; exact pm.symm⟩⟩
      simp only [this]
    rw [e3] at q
    exact q _ ((s1.trans (Jv.same_new hr)).trans (Jv.same_new hl))
theorem ok_BadLot_init (T : Tx) (O : Ok K mg T) : FnOk P w K mg base CX0 1 T.f_BadLotu_initu T.d_BadLotu_initu ["self", "side"] (sp_BadLot_init T.C_BadLot) := by
  refine O.F_BadLotu_initu.ok sc_BadLotu_initu (fun vs H Q E h => by obtain ⟨_, _, rfl, _⟩ := h; rfl) (fun cdv A outer s H vs Q E hr h => ?_)
  obtain ⟨a, v, rfl, ha, q⟩ := h
  refine ⟨_, (pss_one (ps_ost (pv 0) (pv 1))), ?_⟩
  exact ⟨_, rfl, _, rfl, a, T.C_BadLot, rfl, O.x_BadLot.o, O.n_BadLot_side, .inl ⟨ha, fun d hd ne => q d hd ne⟩⟩
theorem ok_BadLotu_initu (T : Tx) (O : Ok K mg T) : FnOk P w K mg base CX0 1 T.f_BadLotu_initu T.d_BadLotu_initu ["self", "side"] (sp_BadLot_init T.C_BadLot) := ok_BadLot_init T O
theorem ok_check_lot (T : Tx) (O : Ok K mg T) : FnOk P w K mg base (L2.CX P w) 4 T.f_check_lot T.d_check_lot ["lot", "kinds", "side"] (sp_check_lot T.C_BadLot) := by
  refine O.F_check_lot.okX sc_check_lot (fun vs H Q E h => by obtain ⟨_, _, _, rfl, _⟩ := h; rfl) (fun cdv A outer s H vs Q E hr h => ?_)
  obtain ⟨x, k, v, rfl, hx, q1, q2⟩ := h
  refine ⟨_, (pss_cons (ps_if (pt_not (pt_val (pe_call (ok_is_lot T O) (hr.mono (by decide)) (by rfl) O.m_is_lot O.F_is_lot.kp O.b_is_lot .nil pass0 (pa_cons (pv 0) (pa_cons (pv 1) pa_nil))))) (pss_one (ps_raise rfl (takes_of rfl rfl rfl rfl) (pmk_oex O.x_BadLot.o O.x_BadLot.n O.x_BadLot.y (ok_BadLotu_initu T O) (hr.mono (by decide)) O.b_BadLotu_initu .nil pass0 (by rfl) O.m_BadLot (pa_cons (pv 2) pa_nil)))) pss_nil)
  (pss_one (ps_ret (pe_callTy (r := Jv.rTupOf K) call_tuple_of (by rfl) O.z_tuple (by decide +kernel) (pa_cons (pv 0) pa_nil))))), ?_⟩
  walk_at "r"
  refine ⟨_, _, rfl, hx, fun H1 s1 => ?_⟩
  walk_at "r"
  cases e : Jv.lotV H x k with
  | true =>
    obtain ⟨ns, e2, _⟩ := Jv.lotV_true e
    obtain ⟨a, rfl, hq⟩ := (Jv.sq_some e2).same s1
    walk_at "r"
    rcases hq with hq | hq
    · refine ⟨a, _, rfl, .inl ⟨Jv.sqL_at hq, fun l hl => ?_⟩⟩
      exact q1 e l _ _ (s1.trans (Jv.same_new hl)) (Jv.sq_some e2) upd_same
    · refine ⟨a, _, rfl, .inr ⟨Jv.sqT_at hq, ?_⟩⟩
      exact q1 e a _ _ s1 (Jv.sq_some e2) hq
  | false =>
    walk_at "r"
    refine ⟨_, rfl, Nat.le_of_ble_eq_true rfl, fun a ha => ⟨a, v, rfl, upd_same, fun d hd ne => ⟨rfl, d, _, upd_same, by rw [upd_ne ne]; exact upd_same, ?_, ?_⟩⟩⟩
    · rw [upd_ne ne] at hd; exact hd
    · rw [upd_ne ne] at hd
      refine q2 e d _ (fun b o hb => ?_) upd_same
      have na := ne_of_none (s1 b o hb) ha
      have nd := ne_of_none (s1 b o hb) hd
      rw [upd_ne nd, del_ne na, upd_ne na, upd_ne nd, upd_ne na]
      exact s1 b o hb
end
end K01

namespace K01
open PySem PySem.Spec PyProof.Rows L2
/-! ### couples -/
def sp_couples_of : Sp := fun vs H Q _ => ∃ sd p q, vs = [sd] ∧ Jv.Sq H sd [.int p, .int q] ∧ (0 ≤ p ∧ p ≤ 20 ∧ 0 ≤ q ∧ q ≤ 20) ∧ ∀ r refs H', Same H H' → H' r = some (.tup refs) → Jv.Tups H' refs (Jv.prs p.toNat q.toNat) → Q (.ref r) H'
def sp_Lcouples : Sp := fun vs H Q _ => ∃ sd p q, vs = [sd] ∧ Jv.Sq H sd [.int p, .int q] ∧ (0 ≤ p ∧ p ≤ 20 ∧ 0 ≤ q ∧ q ≤ 20) ∧ ∀ r refs H', Same H H' → H' r = some (.lst refs) → Jv.Tups H' refs (Jv.prs p.toNat q.toNat) → Q (.ref r) H'
def coupleV (H : Hp) (x : V) (p q : Int) : Bool := match Jv.sqOf H x with
  | some [a, b] => Jv.wholeV a (.int 0) (.int (p - 1)) && Jv.wholeV b (.int 0) (.int (q - 1))
  | _ => false
def sp_check_couple (C : Addr) : Sp := fun vs H Q E => ∃ sd p q x, vs = [sd, x] ∧ Jv.Sq H sd [.int p, .int q] ∧ Jv.ThS H x ∧
  (coupleV H x p q = true → ∀ r xs H', Same H H' → Jv.Sq H x xs → H' r = some (.tup xs) → Q (.ref r) H') ∧ (coupleV H x p q = false → ∀ H', Same H H' → E (.ref C) none H')
def sp_Lis : Sp := fun vs H Q _ => ∃ a b, vs = [.bl a, .bl b] ∧ Q (.bl (decide (a = b))) H
def sp_Lwide_sides : Sp := fun vs H Q _ => ∃ h l, vs = [.ref h] ∧ Jv.Hand H h l ∧ ∀ r p q H', ((1 ≤ p ∧ p ≤ 6) ∧ (1 ≤ q ∧ q ≤ 6) ∧ p * q ≤ 12) → Jv.Kp h H H' → Jv.Hand H' h l → H' r = some (.tup [.int p, .int q]) → Q (.ref r) H'
theorem m_bound {p : Int} (h0 : 0 ≤ p) (h1 : p < 6) : 0 < (if 12 / (1 + p) < 6 then 12 / (1 + p) else 6) ∧ (if 12 / (1 + p) < 6 then 12 / (1 + p) else 6) < 2 ^ 200 := by
  have : p = 0 ∨ p = 1 ∨ p = 2 ∨ p = 3 ∨ p = 4 ∨ p = 5 := by omega
  rcases this with rfl | rfl | rfl | rfl | rfl | rfl <;> decide
theorem q_bound {p q : Int} (h0 : 0 ≤ p) (h1 : p < 6) (q0 : 0 ≤ q) (h : q < if 12 / (1 + p) < 6 then 12 / (1 + p) else 6) : (1 ≤ 1 + q ∧ 1 + q ≤ 6) ∧ (1 + p) * (1 + q) ≤ 12 ∧ (1 + q) * (1 + p) ≤ 12 := by
  have : p = 0 ∨ p = 1 ∨ p = 2 ∨ p = 3 ∨ p = 4 ∨ p = 5 := by omega
  rcases this with rfl | rfl | rfl | rfl | rfl | rfl <;> simp at h <;> omega
section
variable {P : Program} {w : World} {K : PySem.W.Frag} {mg : Str → Option Value} {base : Heap}
theorem ok_couples_of (T : Tx) (O : Ok K mg T) : FnOk P w K mg base CX0 1 T.f_couples_of T.d_couples_of ["sides"] sp_couples_of := by
  refine O.F_couples_of.ok sc_couples_of (fun vs H Q E h => by obtain ⟨_, _, _, rfl, _⟩ := h; rfl) (fun cdv A outer s H vs Q E hr h => ?_)
  obtain ⟨sd, p, q, rfl, hs, ⟨p0, p1, q0, q1⟩, k⟩ := h
  refine ⟨_, (pss_one (ps_ret (pe_callTy (r := Jv.rTupOf K) call_tuple_of (by rfl) O.z_tuple (by decide +kernel) (pa_cons (pe_lc2 (own := [("east", 1), ("west", 2)]) (vs1 := [2]) (by rfl) sc_couples_of.nd (pi_range1 (by rfl) O.z_range (pa_cons (pe_ix (r := rIx K) ix_seq (pv 0) (pe_glob (v := .int (0)) (by rfl) O.c_EAST ⟨_, rfl⟩) (fun _ _ => rfl)) pa_nil)) (blkOk_by (own := [("east", 1), ("west", 2)]) (N := ["sides", "east", "west"]) (sc := defScope s_couples_of) (by decide +kernel)) (by decide) (fun _ _ _ _ _ => (pg_name (i := 1) sc_couples_of.nd rfl (Or.inl rfl))) (fun _ _ _ _ _ => pts_nil) (fun _ _ _ _ _ => (pi_range1 (by rfl) O.z_range (pa_cons (pe_ix (r := rIx K) ix_seq (pv 0) (pe_glob (v := .int (1)) (by rfl) O.c_WEST ⟨_, rfl⟩) (fun _ _ => rfl)) pa_nil))) (fun _ _ _ _ _ => (pg_name (i := 2) sc_couples_of.nd rfl (Or.inl rfl))) (fun _ _ _ _ _ => pts_nil) (fun _ _ _ _ _ => (pe_tup (pa_cons (pv 1) (pa_cons (pv 2) pa_nil))))) pa_nil)))), ?_⟩
  walk_at "r"
  refine Jv.lc2R (p := p.toNat) (q := q.toNat) (a := 1) (b := 2) (by omega) (by omega) (fun _ => rfl) (fun _ _ => rfl) (fun P hP => ?_) (fun i H1 hi s1 P hP => ?_) (fun i j H1 hi hj s1 P hP => ?_) (fun D refs H1 s1 hD e1 t1 => ?_)
  · walk_at "r"
    refine hs.ix (v := .int p) rfl ?_
    rw [show ((p.toNat : Nat) : Int) = p by omega] at hP
    walk_at "r"; exact hP
  · walk_at "r"
    refine (hs.same s1).ix (v := .int q) rfl ?_
    rw [show ((q.toNat : Nat) : Int) = q by omega] at hP
    walk_at "r"; exact hP
  · walk_at "r"
    exact fun t ht => hP t _ (Jv.same_new ht) ht upd_same
  · walk_at "r"
    refine ⟨D, refs, rfl, .inl ⟨Jv.sqL_at e1, fun t ht => ?_⟩⟩
    exact k t refs _ (s1.trans (Jv.same_new ht)) upd_same (t1.same (Jv.same_new ht))
theorem ok_Lis (T : Tx) (O : Ok K mg T) : FnOk P w K mg base CX0 1 T.f_Lis T.d_Lis ["_law_thing", "_law_due"] sp_Lis := by
  refine O.F_Lis.ok sc_Lis (fun vs H Q E h => by obtain ⟨_, _, rfl, _⟩ := h; rfl) (fun cdv A outer s H vs Q E hr h => ?_)
  obtain ⟨a, b, rfl, k⟩ := h
  refine ⟨_, (pss_one (ps_ret (pe_and (pe_callB (r := rIsi K) call_isi (by rfl) O.z_isinstance (by decide +kernel) (pa_cons (pv 0) (pa_cons (pe_bltn (v := .ty "bool") (by rfl) O.z_bool (by decide +kernel) rfl) pa_nil))) (pe_one (pe_cmpR op_eq (pv 0) (pv 1) (nomark _)))))), ?_⟩
  walk_at "r"
  have e : decide (V.bl a = V.bl b) = decide (a = b) := by cases a <;> cases b <;> rfl
  rw [e]; exact k
theorem ok_Lwide_sides (T : Tx) (O : Ok K mg T) : FnOk P w K mg base CX0 3 T.f_Lwide_sides T.d_Lwide_sides ["_law_hand_here"] sp_Lwide_sides := by
  refine O.F_Lwide_sides.ok sc_Lwide_sides (fun vs H Q E h => by obtain ⟨_, _, rfl, _⟩ := h; rfl) (fun cdv A outer s H vs Q E hr h => ?_)
  obtain ⟨h, l, rfl, hh, k⟩ := h
  refine ⟨_, (pss_cons (ps_set (i := 1) sc_Lwide_sides.nd rfl (Or.inl rfl) (pe_op op_add pe_int (pe_call (ok_Ldraw T O) (hr.mono (by decide)) (by rfl) O.m_Ldraw O.F_Ldraw.kp O.b_Ldraw .nil pass0 (pa_cons (pv 0) (pa_cons pe_int pa_nil)))))
  (pss_cons (ps_set (i := 2) sc_Lwide_sides.nd rfl (Or.inl rfl) (pe_op op_add pe_int (pe_call (ok_Ldraw T O) (hr.mono (by decide)) (by rfl) O.m_Ldraw O.F_Ldraw.kp O.b_Ldraw .nil pass0 (pa_cons (pv 0) (pa_cons (pe_callB (r := Jv.rMin2) (call_min2 rfl) (by rfl) O.z_min (by decide +kernel) (pa_cons pe_int (pa_cons (pe_op op_fdivW pe_int (pv 1)) pa_nil))) pa_nil)))))
  (pss_one (ps_ret (pe_ifExp (pt_cmpR op_eq (pe_call (ok_Ldraw T O) (hr.mono (by decide)) (by rfl) O.m_Ldraw O.F_Ldraw.kp O.b_Ldraw .nil pass0 (pa_cons (pv 0) (pa_cons pe_int pa_nil))) pe_int (nomark _)) (pe_tup (pa_cons (pv 1) (pa_cons (pv 2) pa_nil))) (pe_ifExp (pt_cmpR op_gt (pv 2) pe_int (nomark _)) (pe_tup (pa_cons (pv 2) (pa_cons (pv 1) pa_nil))) (pe_tup (pa_cons (pv 1) (pa_cons (pv 2) pa_nil))))))))), ?_⟩
  walk_at "r"
  refine ⟨h, l, _, rfl, hh, ⟨by decide, Jv.log_small (by decide) (by decide)⟩, fun p H1 p0 p1 k1 h1 => ?_⟩
  walk_at "r"
  have mb := m_bound p0 p1
  refine ⟨h, l, _, rfl, h1, ⟨mb.1, Jv.log_small mb.1 mb.2⟩, fun q H2 q0 q1 k2 h2 => ?_⟩
  have qb := q_bound p0 p1 q0 q1
  walk_at "r"
  refine ⟨h, l, _, rfl, h2, ⟨by decide, Jv.log_small (by decide) (by decide)⟩, fun r H3 r0 r1 k3 h3 => ?_⟩
  have kk := (k1.trans k2).trans k3
  walk_at "r"
  refine Jv.r_decI (fun _ => ?_) (fun _ => ?_)
  · walk_at "r"
    intro t ht
    exact k t _ _ _ ⟨by omega, qb.1, qb.2.1⟩ (kk.trans (Jv.Kp.new ht)) (h3.same (Jv.same_new ht)) upd_same
  · walk_at "rr"
    intro t ht
    exact k t _ _ _ ⟨qb.1, by omega, qb.2.2⟩ (kk.trans (Jv.Kp.new ht)) (h3.same (Jv.same_new ht)) upd_same
theorem ok_Lcouples (T : Tx) (O : Ok K mg T) : FnOk P w K mg base CX0 1 T.f_Lcouples T.d_Lcouples ["_law_sides"] sp_Lcouples := by
  refine O.F_Lcouples.ok sc_Lcouples (fun vs H Q E h => by obtain ⟨_, _, _, rfl, _⟩ := h; rfl) (fun cdv A outer s H vs Q E hr h => ?_)
  obtain ⟨sd, p, q, rfl, hs, ⟨p0, p1, q0, q1⟩, k⟩ := h
  refine ⟨_, (pss_cons (ps_set (i := 1) sc_Lcouples.nd rfl (Or.inl rfl) (pe_lst pa_nil))
  (pss_cons (ps_for PassesOwn.never rfl (pi_range1 (by rfl) O.z_range (pa_cons (pe_ix (r := rIx K) ix_seq (pv 0) pe_int (fun _ _ => rfl)) pa_nil)) (pg_name (i := 2) sc_Lcouples.nd rfl (Or.inl rfl)) (pss_one (ps_for PassesOwn.never rfl (pi_range1 (by rfl) O.z_range (pa_cons (pe_ix (r := rIx K) ix_seq (pv 0) pe_int (fun _ _ => rfl)) pa_nil)) (pg_name (i := 3) sc_Lcouples.nd rfl (Or.inl rfl)) (pss_one (ps_expr (show PE _ _ (tBM K _ _ _ _) from pe_bm PySem.F.plainAttrs_list PySem.F.slot_list_append PySem.F.type_list_append mt_append (pv 1) (pa_cons (pe_tup (pa_cons (pv 2) (pa_cons (pv 3) pa_nil))) pa_nil)))))))
  (pss_one (ps_ret (pv 1))))), ?_⟩
  walk_at "r"
  intro a ha
  walk_at "r"
  have sA := Jv.same_new (u := .lst []) ha
  refine (hs.same sA).ix (v := .int p) rfl ?_
  walk_at "r"
  refine ⟨p, rfl, by omega, by omega, ?_⟩
  refine for_range (lo := 0) (n := p.toNat) (fun i σ H1 => ∃ y2 y3 refs, σ = [some sd, some (.ref a), y2, y3] ∧ Same H H1 ∧ H1 a = some (.lst refs) ∧ Jv.Tups H1 refs (Jv.pairsTo q.toNat i 0)) ⟨_, _, [], rfl, sA, upd_same, .nil⟩ ?_ ?_
  · rintro i σ H1 hi ⟨y2, y3, refs, rfl, s1, e1, t1⟩
    rw [Int.zero_add]
    walk_at "r"
    refine (hs.same s1).ix (v := .int q) rfl ?_
    walk_at "r"
    refine ⟨q, rfl, by omega, by omega, ?_⟩
    refine for_range (lo := 0) (n := q.toNat) (fun j σ H1 => ∃ y3 refs, σ = [some sd, some (.ref a), some (.int i), y3] ∧ Same H H1 ∧ H1 a = some (.lst refs) ∧ Jv.Tups H1 refs (Jv.pairsTo q.toNat i j)) ⟨_, refs, rfl, s1, e1, t1⟩ ?_ ?_
    · rintro j σ H2 hj ⟨y3, refs, rfl, s2, e2, t2⟩
      rw [Int.zero_add]
      walk_at "r"
      intro t ht
      walk_at "r"
      refine ⟨a, refs, _, rfl, rfl, Jv.kp e2 ht, ?_, ?_⟩
      · have h1 := Paired.length t2
        have h2 := Jv.pairsTo_len q.toNat i j
        have h3 : i * q.toNat ≤ 20 * 20 := Nat.mul_le_mul (by omega) (by omega)
        exact Jv.small_lt (by omega)
      · refine ⟨_, refs ++ [.ref t], rfl, ?_, upd_same, ?_⟩
        · intro b o hb
          exact Jv.kpO (Jv.kp (s2 b o hb) ht) (ne_of_none hb ha)
        · rw [Jv.pairsTo_more]
          refine Jv.Tups.upd (Jv.Paired.snoc ⟨t, rfl, upd_same⟩ (t2.same (Jv.same_new ht))) fun xs z => ?_
          rw [Jv.kp e2 ht] at z; cases z
    · rintro σ H2 ⟨y3, refs, rfl, s2, e2, t2⟩
      rw [Jv.pairsTo_next] at t2
      exact ⟨_, _, refs, rfl, s2, e2, t2⟩
  · rintro σ H1 ⟨y2, y3, refs, rfl, s1, e1, t1⟩
    walk_at "r"
    exact k a refs _ s1 e1 t1
theorem ok_check_couple (T : Tx) (O : Ok K mg T) : FnOk P w K mg base (L2.CX P w) 2 T.f_check_couple T.d_check_couple ["sides", "couple"] (sp_check_couple T.C_BadCouple) := by
  refine O.F_check_couple.okX sc_check_couple (fun vs H Q E h => by obtain ⟨_, _, _, _, rfl, _⟩ := h; rfl) (fun cdv A outer s H vs Q E hr h => ?_)
  obtain ⟨sd, p, q, x, rfl, hs, hx, k1, k2⟩ := h
  refine ⟨_, (pss_cons (ps_if (PW.pt (pw_or (pt_not (pt_val (pe_call (ok_is_sequence T O) (hr.mono (by decide)) (by rfl) O.m_is_sequence O.F_is_sequence.kp O.b_is_sequence .nil pass0 (pa_cons (pv 1) pa_nil)))) (pw_or1 (pt_cmpR op_ne (pe_callB (r := Jv.rLenK K) Jv.cr_len (by rfl) O.z_len (by decide +kernel) (pa_cons (pv 1) pa_nil)) pe_int (nomark _))))) (pss_one (ps_raise rfl (takes_of rfl rfl rfl rfl) (Jv.pmk_own0 PySem.F.excBase_ValueError O.e_BadCouple.x O.m_BadCouple O.e_BadCouple.k (O.e_BadCouple.raises) (by rfl)))) pss_nil)
  (pss_cons (ps_for (passes_of rfl) rfl (show PI _ _ _ (iTup K _) from pi_tup (pe_tup (pa_cons (pe_glob (v := .int (0)) (by rfl) O.c_EAST ⟨_, rfl⟩) (pa_cons (pe_glob (v := .int (1)) (by rfl) O.c_WEST ⟨_, rfl⟩) pa_nil)))) (pg_name (i := 2) sc_check_couple.nd rfl (Or.inl rfl)) (pss_one (ps_if (pt_not (pt_val (pe_call (ok_is_whole T O) (hr.mono (by decide)) (by rfl) O.m_is_whole O.F_is_whole.kp O.b_is_whole .nil pass0 (pa_cons (pe_ix (r := rIx K) ix_seq (pv 1) (pv 2) (fun _ _ => rfl)) (pa_cons pe_int (pa_cons (pe_op op_sub (pe_ix (r := rIx K) ix_seq (pv 0) (pv 2) (fun _ _ => rfl)) pe_int) pa_nil)))))) (pss_one (ps_raise rfl (takes_of rfl rfl rfl rfl) (Jv.pmk_own0 PySem.F.excBase_ValueError O.e_BadCouple.x O.m_BadCouple O.e_BadCouple.k (O.e_BadCouple.raises) (by rfl)))) pss_nil)))
  (pss_one (ps_ret (pe_callTy (r := Jv.rTupOf K) call_tuple_of (by rfl) O.z_tuple (by decide +kernel) (pa_cons (pv 1) pa_nil)))))), ?_⟩
  walk_at "r"
  refine ⟨_, rfl, hx.1, fun H1 s1 => ?_⟩
  walk_at "r"
  cases e : Jv.sqOf H x with
  | none =>
    have e2 : coupleV H x p q = false := by unfold coupleV; rw [e]
    walk_at "r"; exact k2 e2 _ s1
  | some xs =>
    have sq := (Jv.sq_some e).same s1
    obtain ⟨few, th⟩ := hx.2 xs (Jv.sq_some e)
    walk_at "r"
    refine sq.len ?_
    walk_at "r"
    refine Jv.r_ndecI (fun hl => ?_) (fun hl => ?_)
    · have e2 : coupleV H x p q = false := by
        unfold coupleV; rw [e]
        split
        · rename_i e3; cases e3; exact absurd rfl hl
        · rfl
      walk_at "r"; exact k2 e2 _ s1
    · obtain ⟨y, z, rfl⟩ : ∃ y z, xs = [y, z] := by
        match xs, hl with
        | [y, z], _ => exact ⟨y, z, rfl⟩
        | [], h => simp at h
        | [_], h => simp at h
        | _ :: _ :: _ :: r, h => simp at h; omega
      have e2 : coupleV H x p q = (Jv.wholeV y (.int 0) (.int (p - 1)) && Jv.wholeV z (.int 0) (.int (q - 1))) := by unfold coupleV; rw [e]
      rw [e2] at k1 k2
      walk_at "r"
      intro t ht
      have s2 := s1.trans (Jv.same_new (u := .tup [.int 0, .int 1]) ht)
      have sq2 := (Jv.sq_some e).same s2
      refine ⟨t, rfl, ⟨_, Jv.sqT_at upd_same⟩, ?_⟩
      refine for_tup (xs := [.int 0, .int 1]) (fun i σ H2 => ∃ y2, σ = [some sd, some x, y2] ∧ H2 = upd H1 t (.tup [.int 0, .int 1]) ∧ (1 ≤ i → Jv.wholeV y (.int 0) (.int (p - 1)) = true) ∧ (2 ≤ i → Jv.wholeV z (.int 0) (.int (q - 1)) = true)) ⟨_, rfl, rfl, fun h => absurd h (by decide), fun h => absurd h (by decide)⟩ (fun i σ H2 _ ⟨_, _, e3, _⟩ => by rw [e3]; exact Jv.sqT_at upd_same) ?_ ?_
      · rintro i v σ H2 hv ⟨y2, rfl, rfl, c1, c2⟩
        match i, hv with
        | 0, hv =>
          cases hv
          walk_at "r"
          refine sq2.ix (v := y) rfl ?_
          walk_at "r"
          refine (hs.same s2).ix (v := .int p) rfl ?_
          walk_at "r"
          refine ⟨_, _, _, rfl, (th y (by simp)).same s2, .inr ⟨_, rfl⟩, .inr ⟨_, rfl⟩, ?_⟩
          walk_at "r"
          cases ey : Jv.wholeV y (.int 0) (.int (p - 1)) with
          | true => walk_at "r"; exact ⟨_, rfl, rfl, fun _ => rfl, fun h => absurd h (by decide)⟩
          | false => walk_at "r"; exact k2 (by rw [ey]; rfl) _ s2
        | 1, hv =>
          cases hv
          walk_at "r"
          refine sq2.ix (v := z) rfl ?_
          walk_at "r"
          refine (hs.same s2).ix (v := .int q) rfl ?_
          walk_at "r"
          refine ⟨_, _, _, rfl, (th z (by simp)).same s2, .inr ⟨_, rfl⟩, .inr ⟨_, rfl⟩, ?_⟩
          walk_at "r"
          cases ez : Jv.wholeV z (.int 0) (.int (q - 1)) with
          | true => walk_at "r"; exact ⟨_, rfl, rfl, fun _ => c1 (by decide), fun _ => rfl⟩
          | false => walk_at "r"; exact k2 (by rw [ez, Bool.and_false]) _ s2
      · rintro σ H2 ⟨y2, rfl, rfl, c1, c2⟩
        have ok := k1 (by rw [c1 (by decide), c2 (by decide)]; rfl)
        obtain ⟨a, rfl, hq⟩ := sq2
        walk_at "r"
        rcases hq with hq | hq
        · exact ⟨a, _, rfl, .inl ⟨Jv.sqL_at hq, fun l hl => ok l _ _ (s2.trans (Jv.same_new hl)) (Jv.sq_some e) upd_same⟩⟩
        · exact ⟨a, _, rfl, .inr ⟨Jv.sqT_at hq, ok a _ _ s2 (Jv.sq_some e) hq⟩⟩
end
end K01

namespace K01
open PySem PySem.Spec PyProof.Rows L2
/-! ### what the law tells of lots, couples, sides; orders drawn -/
def sp_Lorder : Sp := fun vs H Q _ => ∃ h l m, vs = [.ref h, .int m] ∧ Jv.Hand H h l ∧ (1 ≤ m ∧ m ≤ 40) ∧ ∀ (r : Addr) (ns : List Int) (H' : Hp), ns.Perm (Jv.rgI m.toNat) → H r = none → H' r = some (.lst (ns.map V.int)) → Jv.Kp h H H' → Jv.Hand H' h l → Q (.ref r) H'
def sp_Llot_told : Sp := fun vs H Q _ => ∃ x k v, vs = [x, .int k, v] ∧ Jv.ThS H x ∧
  (Jv.lotV H x k = true → ∀ p xs H', Same H H' → Jv.Sq H x xs → H' p = some (.tup xs) → Q (.ref p) H') ∧
  (Jv.lotV H x k = false → ∀ p H', Same H H' → H' p = some (.lst [.str "bad", v]) → Q (.ref p) H')
def sp_Lcouple_told : Sp := fun vs H Q _ => ∃ sd p q x, vs = [sd, x] ∧ Jv.Sq H sd [.int p, .int q] ∧ Jv.ThS H x ∧
  (coupleV H x p q = true → ∀ r xs H', Same H H' → Jv.Sq H x xs → H' r = some (.tup xs) → Q (.ref r) H') ∧ (coupleV H x p q = false → ∀ r H', Same H H' → H r = none → H' r = some (.lst [.str "bad"]) → Q (.ref r) H')
def sp_Lside_told : Sp := fun vs H Q _ => ∃ x, vs = [x] ∧ Jv.Th H x ∧ (Jv.wholeV x (.int 0) (.int 1) = true → Q x H) ∧ (Jv.wholeV x (.int 0) (.int 1) = false → ∀ r H', Same H H' → H r = none → H' r = some (.lst [.str "bad"]) → Q (.ref r) H')
def sp_Lrises (K : PySem.W.Frag) : Sp := fun vs H Q _ => ∃ a ns k, vs = [.ref a, .int k] ∧ SqL K H a (ns.map V.int) ∧ ns.length ≤ 1000 ∧ Q (.bl (decide (Jv.lotP k ns))) H
section
variable {P : Program} {w : World} {K : PySem.W.Frag} {mg : Str → Option Value} {base : Heap}
theorem ok_Lrises (T : Tx) (O : Ok K mg T) : FnOk P w K mg base CX0 1 T.f_Lrises T.d_Lrises ["_law_numbers", "_law_kinds"] (sp_Lrises K) := by
  refine O.F_Lrises.ok sc_Lrises (fun vs H Q E h => by obtain ⟨_, _, _, rfl, _⟩ := h; rfl) (fun cdv A outer s H vs Q E hr h => ?_)
  obtain ⟨a, ns, k, rfl, hs, few, q⟩ := h
  refine ⟨_, (pss_cons (ps_set (i := 2) sc_Lrises.nd rfl (Or.inl rfl) (pe_un un_neg pe_int))
  (pss_cons (ps_for PassesOwn.never rfl (show PI _ _ _ (iList K _) from pi_list (pv 0)) (pg_name (i := 3) sc_Lrises.nd rfl (Or.inl rfl)) (pss_cons (ps_if (pt_not (pt_chain op_lt op_lt (pv 2) (pv 3) (pv 1))) (pss_one (ps_ret pe_bl)) pss_nil)
  (pss_one (ps_set (i := 2) sc_Lrises.nd rfl (Or.inl rfl) (pv 3)))))
  (pss_one (ps_ret (pe_cmpR op_gt (pe_callB (r := Jv.rLenK K) Jv.cr_len (by rfl) O.z_len (by decide +kernel) (pa_cons (pv 0) pa_nil)) pe_int (nomark _)))))), ?_⟩
  walk_at "r"
  refine ⟨a, rfl, ⟨_, hs⟩, ?_⟩
  refine for_list (K := K) (a := a) (xs := ns.map V.int) (fun i σ H1 => ∃ b y3, σ = [some (.ref a), some (.int k), some (.int b), y3] ∧ H1 = H ∧ -1 ≤ b ∧ Jv.inK k (ns.take i) ∧ (ns.take i).Pairwise (· < ·) ∧ (∀ n ∈ ns.take i, n ≤ b) ∧ (b = -1 ∨ b ∈ ns.take i)) ⟨-1, _, rfl, rfl, by decide, (by intro n h; cases h), .nil, (by intro n h; cases h), .inl rfl⟩ (fun i σ H1 _ ⟨_, _, _, e, _⟩ => by rw [e]; exact hs) ?_ ?_
  · rintro i x σ H1 hx ⟨b, y3, rfl, rfl, hb, h1, h2, h3, h4⟩
    obtain ⟨z, hz, rfl⟩ := Jv.map_at hx
    by_cases c : b < z ∧ z < k
    · walk_at "rr"
      all_goals first | omega | skip
      have ez := Jv.take_more hz
      refine ⟨z, _, rfl, rfl, by omega, ?_, ?_, ?_, .inr (by rw [ez]; simp)⟩
      · rw [ez]; intro n hn
        rcases List.mem_append.mp hn with hn | hn
        · exact h1 n hn
        · rw [List.mem_singleton.mp hn]; omega
      · rw [ez, List.pairwise_append]
        refine ⟨h2, List.pairwise_singleton _ _, fun n hn m hm => ?_⟩
        rw [List.mem_singleton.mp hm]
        have := h3 n hn; omega
      · rw [ez]; intro n hn
        rcases List.mem_append.mp hn with hn | hn
        · have := h3 n hn; omega
        · rw [List.mem_singleton.mp hn]; omega
    · rw [decide_eq_false (Jv.rises_no hz h4 c)] at q
      walk_at "rr"
      all_goals first | exact q | omega
  · rintro σ H1 ⟨b, y3, rfl, rfl, hb, h1, h2, h3, h4⟩
    rw [List.length_map, List.take_length] at h1 h2
    walk_at "r"
    rw [List.length_map]
    have e : decide (Jv.lotP k ns) = decide ((0 : Int) < ns.length) := by
      have : Jv.lotP k ns ↔ (0 : Int) < ns.length := ⟨fun h => by have := h.2.1; omega, fun h => ⟨h1, by omega, h2⟩⟩
      simp only [this]
    rw [e] at q
    exact q
theorem ok_Llot_told (T : Tx) (O : Ok K mg T) : FnOk P w K mg base CX0 5 T.f_Llot_told T.d_Llot_told ["_law_lot", "_law_kinds", "_law_side"] sp_Llot_told := by
  refine O.F_Llot_told.ok sc_Llot_told (fun vs H Q E h => by obtain ⟨_, _, _, rfl, _⟩ := h; rfl) (fun cdv A outer s H vs Q E hr h => ?_)
  obtain ⟨x, k, v, rfl, hx, q1, q2⟩ := h
  refine ⟨_, (pss_one (ps_try_as (i := 3) rfl rfl sc_Llot_told.nd rfl rfl ⟨rfl, by decide, .inl O.m_BadLot⟩ takes0 (fun W pn xe tk _ => (pss_one (ps_ret (pe_callS (ok_check_lot T O) (hr.mono (by decide)) (by rfl) O.m_check_lot O.F_check_lot.kp O.b_check_lot (fun σ => passAt tk σ) (pa_cons (pv 0) (pa_cons (pv 1) (pa_cons (pv 2) pa_nil))))))) (fun a oe cls d pn hz hf => (pss_one (ps_ret (pe_lst (pa_cons pe_str (pa_cons (pe_xf O.x_BadLot.f O.n_BadLot_side hz hf (pv 3)) pa_nil)))))))), ?_⟩
  walk_at "r"
  refine ⟨_, _, _, rfl, hx, fun e p xs H1 s1 sq hp => q1 e p xs H1 s1 sq hp, fun e d H1 s1 hd => ?_⟩
  refine ⟨true, O.x_BadLot.e, fun _ a ha => ?_, fun z => nomatch z⟩
  walk_at "r"
  refine ⟨_, rfl, rfl, rfl, d, _, _, rfl, hd, rfl, ?_⟩
  walk_at "r"
  exact fun r hr => q2 e r _ (s1.trans (Jv.same_new hr)) upd_same
theorem ok_Lside_told (T : Tx) (O : Ok K mg T) : FnOk P w K mg base CX0 3 T.f_Lside_told T.d_Lside_told ["_law_side"] sp_Lside_told := by
  refine O.F_Lside_told.ok sc_Lside_told (fun vs H Q E h => by obtain ⟨_, rfl, _⟩ := h; rfl) (fun cdv A outer s H vs Q E hr h => ?_)
  obtain ⟨x, rfl, hx, q1, q2⟩ := h
  refine ⟨_, (pss_one (ps_try_only rfl rfl ⟨rfl, by decide, .inl O.m_BadSide⟩ takes0 (fun W pn xe tk _ => (pss_one (ps_ret (pe_callS (ok_check_side T O) (hr.mono (by decide)) (by rfl) O.m_check_side O.F_check_side.kp O.b_check_side (fun σ => passAt tk σ) (pa_cons (pv 0) pa_nil))))) (fun a oe cls d pn _ _ => (pss_one (ps_ret (pe_lst (pa_cons pe_str pa_nil))))))), ?_⟩
  walk_at "r"
  refine ⟨_, rfl, hx, fun e => q1 e, fun e => ?_⟩
  refine ⟨true, O.e_BadSide.e, fun _ a ha => ?_, fun z => nomatch z⟩
  walk_at "r"
  exact fun r hr => q2 e r _ (Jv.same_new hr) hr upd_same
theorem ok_Lcouple_told (T : Tx) (O : Ok K mg T) : FnOk P w K mg base CX0 3 T.f_Lcouple_told T.d_Lcouple_told ["_law_sides", "_law_couple"] sp_Lcouple_told := by
  refine O.F_Lcouple_told.ok sc_Lcouple_told (fun vs H Q E h => by obtain ⟨_, _, _, _, rfl, _⟩ := h; rfl) (fun cdv A outer s H vs Q E hr h => ?_)
  obtain ⟨sd, p, q, x, rfl, hs, hx, q1, q2⟩ := h
  refine ⟨_, (pss_one (ps_try_only rfl rfl ⟨rfl, by decide, .inl O.m_BadCouple⟩ takes0 (fun W pn xe tk _ => (pss_one (ps_ret (pe_callS (ok_check_couple T O) (hr.mono (by decide)) (by rfl) O.m_check_couple O.F_check_couple.kp O.b_check_couple (fun σ => passAt tk σ) (pa_cons (pv 0) (pa_cons (pv 1) pa_nil)))))) (fun a oe cls d pn _ _ => (pss_one (ps_ret (pe_lst (pa_cons pe_str pa_nil))))))), ?_⟩
  walk_at "r"
  refine ⟨_, _, _, _, rfl, hs, hx, fun e r xs H1 s1 sq hp => q1 e r xs H1 s1 sq hp, fun e H1 s1 => ?_⟩
  refine ⟨true, O.e_BadCouple.e, fun _ a ha => ?_, fun z => nomatch z⟩
  walk_at "r"
  exact fun r hr => q2 e r _ (s1.trans (Jv.same_new hr)) (s1.free hr) upd_same
theorem ok_Lorder (T : Tx) (O : Ok K mg T) : FnOk P w K mg base CX0 3 T.f_Lorder T.d_Lorder ["_law_hand_here", "_law_many"] sp_Lorder := by
  refine O.F_Lorder.ok sc_Lorder (fun vs H Q E h => by obtain ⟨_, _, _, rfl, _⟩ := h; rfl) (fun cdv A outer s H vs Q E hr h => ?_)
  obtain ⟨h, l, m, rfl, hh, ⟨m0, m1⟩, k⟩ := h
  refine ⟨_, (pss_cons (ps_set (i := 2) sc_Lorder.nd rfl (Or.inl rfl) (pe_listRg rfl (by rfl) O.z_list (prg_1 (by rfl) O.z_range (pv 1))))
  (pss_cons (ps_set (i := 3) sc_Lorder.nd rfl (Or.inl rfl) (pe_lst pa_nil))
  (pss_cons (ps_for PassesOwn.never rfl (pi_range1 (by rfl) O.z_range (pa_cons (pv 1) pa_nil)) (pg_name (i := 4) sc_Lorder.nd rfl (Or.inl rfl)) (pss_one (ps_expr (show PE _ _ (tBM K _ _ _ _) from pe_bm PySem.F.plainAttrs_list PySem.F.slot_list_append PySem.F.type_list_append mt_append (pv 3) (pa_cons (show PE _ _ (tBM K _ _ _ _) from pe_bm PySem.F.plainAttrs_list PySem.F.slot_list_pop PySem.F.type_list_pop mt_popAt (pv 2) (pa_cons (pe_call (ok_Ldraw T O) (hr.mono (by decide)) (by rfl) O.m_Ldraw O.F_Ldraw.kp O.b_Ldraw .nil pass0 (pa_cons (pv 0) (pa_cons (pe_callB (r := Jv.rLenK K) Jv.cr_len (by rfl) O.z_len (by decide +kernel) (pa_cons (pv 2) pa_nil)) pa_nil))) pa_nil)) pa_nil)))))
  (pss_one (ps_ret (pv 3)))))), ?_⟩
  walk_at "r"
  refine ⟨_, rfl, m, rfl, RgOk.of_le (by omega) (by omega) (by omega) (by omega), fun a ha => ?_⟩
  walk_at "r"
  rw [Jv.rgV0]
  intro b hb
  walk_at "r"
  refine ⟨m, rfl, by omega, by omega, ?_⟩
  have hbH : H b = none := (Jv.same_new ha).free hb
  obtain ⟨ho, hho⟩ := hh.at
  have nah : a ≠ h := (ne_of_none hho ha).symm
  have nbh : b ≠ h := (ne_of_none hho hbH).symm
  have nba : b ≠ a := fun e => by rw [e, upd_same] at hb; cases hb
  have sab := (Jv.same_new (u := .lst ((Jv.rgI m.toNat).map V.int)) ha).trans (Jv.same_new (u := .lst []) hb)
  refine for_range (lo := 0) (n := m.toNat) (fun i σ H1 => ∃ y4 ns ms, σ = [some (.ref h), some (.int m), some (.ref a), some (.ref b), y4] ∧ Jv.Kp h H H1 ∧ Jv.Hand H1 h l ∧ H1 a = some (.lst (ms.map V.int)) ∧ H1 b = some (.lst (ns.map V.int)) ∧ (ns ++ ms).Perm (Jv.rgI m.toNat) ∧ ms.length + i = m.toNat ∧ ns.length = i) ⟨_, [], Jv.rgI m.toNat, rfl, Jv.Kp.same sab, hh.same sab, Jv.kp upd_same hb, upd_same, .refl _, by simp [Jv.rgI], rfl⟩ ?_ ?_
  · rintro i σ H1 hi ⟨y4, ns, ms, rfl, kp, h1, ea, eb, pm, le, ln⟩
    walk_at "r"
    rw [List.length_map]
    refine ⟨h, l, _, rfl, h1, ⟨by omega, Jv.log_small (by omega) (by omega)⟩, fun z H2 z0 z1 k2 h2 => ?_⟩
    have hz : z.toNat < ms.length := by omega
    have ea2 := k2 a _ nah ea
    have eb2 := k2 b _ nbh eb
    walk_at "r"
    refine Jv.r_popAt ea2 z0 (by omega) (Jv.map_get hz) ?_
    walk_at "r"
    refine Jv.r_app (by rw [upd_ne nba]; exact eb2) (by rw [List.length_map]; omega) ?_
    refine ⟨_, ns ++ [ms[z.toNat]], ms.eraseIdx z.toNat, rfl, ?_, ?_, ?_, ?_, (Jv.pop_perm (List.getElem?_eq_getElem hz)).trans pm, ?_, by rw [List.length_append, ln]; rfl⟩
    · intro c o nc hc
      have e2 := k2 c o nc (kp c o nc hc)
      have nca := ne_of_none hc ha
      have ncb := ne_of_none hc hbH
      rw [upd_ne ncb, upd_ne nca]; exact e2
    · obtain ⟨ns2, k3, c3, t3, hA⟩ := h2
      have la : l ≠ a := fun e => by
        have q := hA.hl
        rw [e, ea2] at q
        obtain ⟨ns0, k0, c0, t0, hA0⟩ := hh
        exact absurd hA0.hl (by rw [e, ha]; simp)
      have lb : l ≠ b := fun e => by
        obtain ⟨ns0, k0, c0, t0, hA0⟩ := hh
        exact absurd hA0.hl (by rw [e, hbH]; simp)
      exact ⟨ns2, k3, c3, t3, by rw [upd_ne nbh.symm, upd_ne nah.symm]; exact hA.hp, by rw [upd_ne lb, upd_ne la]; exact hA.hl, hA.nn, hA.few, hA.bd⟩
    · rw [upd_ne nba.symm, upd_same, Jv.erase_map]
    · rw [upd_same, List.map_append]; rfl
    · rw [List.length_eraseIdx_of_lt hz]; omega
  · rintro σ H1 ⟨y4, ns, ms, rfl, kp, h1, ea, eb, pm, le, ln⟩
    have em : ms = [] := List.eq_nil_of_length_eq_zero (by omega)
    subst em
    rw [List.append_nil] at pm
    walk_at "r"
    exact k b ns H1 pm hbH eb kp h1
end
end K01

namespace K01
open PySem PySem.Spec PyProof.Rows L2
/-! ### the law's own loops -/
def sp_LR : Sp := fun vs H Q _ => ∃ h l, vs = [.ref h] ∧ Jv.Hand H h l ∧ ∀ H', Jv.Kp h H H' → Jv.Hand H' h l → Q (.bl true) H'
section
variable {P : Program} {w : World} {K : PySem.W.Frag} {mg : Str → Option Value} {base : Heap}
theorem ok_Lnumbers_right (T : Tx) (O : Ok K mg T) : FnOk P w K mg base CX0 3 T.f_Lnumbers_right T.d_Lnumbers_right ["_law_hand_here"] sp_LR := by
  refine O.F_Lnumbers_right.ok sc_Lnumbers_right (fun vs H Q E h => by obtain ⟨_, _, rfl, _⟩ := h; rfl) (fun cdv A outer s H vs Q E hr h => ?_)
  obtain ⟨h, l, rfl, hh, k⟩ := h
  refine ⟨_, (pss_cons (ps_for PassesOwn.never rfl (pi_range1 (by rfl) O.z_range (pa_cons pe_int pa_nil)) (pg_name (i := 1) sc_Lnumbers_right.nd rfl (Or.inl rfl)) (C8.pss_cut (ps_set (i := 2) sc_Lnumbers_right.nd rfl (Or.inl rfl) (pe_ifExp (pt_cmpR op_lt (pv 1) pe_int (nomark _)) (pe_op op_sub (pe_call (ok_Ldraw T O) (hr.mono (by decide)) (by rfl) O.m_Ldraw O.F_Ldraw.kp O.b_Ldraw .nil pass0 (pa_cons (pv 0) (pa_cons (pe_op op_pow pe_int pe_int) pa_nil))) (pe_op op_mul pe_int (pe_op op_pow pe_int pe_int))) (pe_op op_sub (pe_call (ok_Ldraw T O) (hr.mono (by decide)) (by rfl) O.m_Ldraw O.F_Ldraw.kp O.b_Ldraw .nil pass0 (pa_cons (pv 0) (pa_cons pe_int pa_nil))) pe_int)))
  (C8.pss_cut (ps_set (i := 3) sc_Lnumbers_right.nd rfl (Or.inl rfl) (pe_ifExp (pt_cmpR op_eq (pe_call (ok_Ldraw T O) (hr.mono (by decide)) (by rfl) O.m_Ldraw O.F_Ldraw.kp O.b_Ldraw .nil pass0 (pa_cons (pv 0) (pa_cons pe_int pa_nil))) pe_int (nomark _)) pe_non (pe_op op_sub (pe_call (ok_Ldraw T O) (hr.mono (by decide)) (by rfl) O.m_Ldraw O.F_Ldraw.kp O.b_Ldraw .nil pass0 (pa_cons (pv 0) (pa_cons pe_int pa_nil))) pe_int)))
  (C8.pss_cut (ps_set (i := 4) sc_Lnumbers_right.nd rfl (Or.inl rfl) (pe_ifExp (pt_cmpR op_eq (pe_call (ok_Ldraw T O) (hr.mono (by decide)) (by rfl) O.m_Ldraw O.F_Ldraw.kp O.b_Ldraw .nil pass0 (pa_cons (pv 0) (pa_cons pe_int pa_nil))) pe_int (nomark _)) pe_non (pe_op op_sub (pe_call (ok_Ldraw T O) (hr.mono (by decide)) (by rfl) O.m_Ldraw O.F_Ldraw.kp O.b_Ldraw .nil pass0 (pa_cons (pv 0) (pa_cons pe_int pa_nil))) pe_int)))
  (C8.pss_cut (ps_set (i := 5) sc_Lnumbers_right.nd rfl (Or.inl rfl) (pe_and (pe_or (pe_cmpR op_isN (pv 3) pe_non (nomark _)) (pe_one (pe_cmpR op_ge (pv 2) (pv 3) (nomark _)))) (pe_one (pe_or (pe_cmpR op_isN (pv 4) pe_non (nomark _)) (pe_one (pe_cmpR op_le (pv 2) (pv 4) (nomark _)))))))
  (pss_cons (ps_if (PW.pt (pw_or (pt_not (pt_val (pe_call (ok_Lis T O) (hr.mono (by decide)) (by rfl) O.m_Lis O.F_Lis.kp O.b_Lis .nil pass0 (pa_cons (pe_call (ok_is_whole T O) (hr.mono (by decide)) (by rfl) O.m_is_whole O.F_is_whole.kp O.b_is_whole .nil pass0 (pa_cons (pv 2) (pa_cons (pv 3) (pa_cons (pv 4) pa_nil)))) (pa_cons (pv 5) pa_nil))))) (pw_or1 (pt_not (pt_val (pe_call (ok_Lis T O) (hr.mono (by decide)) (by rfl) O.m_Lis O.F_Lis.kp O.b_Lis .nil pass0 (pa_cons (pe_call (ok_is_whole T O) (hr.mono (by decide)) (by rfl) O.m_is_whole O.F_is_whole.kp O.b2_is_whole.2 O.b2_is_whole.1 pass0 (pa_cons (pv 2) pa_nil)) (pa_cons pe_bl pa_nil)))))))) (pss_one (ps_ret pe_bl)) pss_nil)
  (pss_one (ps_if (PW.pt (pw_and (pt_cmpR op_isN (pv 3) pe_non (nomark _)) (pw_and1 (pt_not (pt_val (pe_call (ok_Lis T O) (hr.mono (by decide)) (by rfl) O.m_Lis O.F_Lis.kp O.b_Lis .nil pass0 (pa_cons (pe_callN (ok_is_whole T O) (hr.mono (by decide)) (by rfl) O.m_is_whole O.F_is_whole.kp O.kb1_high_is_whole pass0 (pa_cons (pv 2) pa_nil) (pk_cons (pv 4) pk_nil)) (pa_cons (pv 5) pa_nil)))))))) (pss_one (ps_ret pe_bl)) pss_nil))))))))
  (pss_cons (ps_for PassesOwn.never rfl (show PI _ _ _ (iList K _) from pi_list (pe_lst (pa_cons pe_bl (pa_cons pe_bl (pa_cons pe_non (pa_cons pe_str (pa_cons (pe_tup (pa_cons pe_int pa_nil)) (pa_cons (pe_lst (pa_cons pe_int pa_nil)) (pa_cons (pe_disp (pps_cons pe_int pe_int pps_nil) (by rfl) (by rfl) (fun z => by cases z) (by decide)) pa_nil))))))))) (pg_name (i := 6) sc_Lnumbers_right.nd rfl (Or.inl rfl)) (pss_cons (ps_if (PW.pt (pw_or (pt_not (pt_val (pe_call (ok_Lis T O) (hr.mono (by decide)) (by rfl) O.m_Lis O.F_Lis.kp O.b_Lis .nil pass0 (pa_cons (pe_call (ok_is_whole T O) (hr.mono (by decide)) (by rfl) O.m_is_whole O.F_is_whole.kp O.b2_is_whole.2 O.b2_is_whole.1 pass0 (pa_cons (pv 6) pa_nil)) (pa_cons pe_bl pa_nil))))) (pw_or1 (pt_not (pt_val (pe_call (ok_Lis T O) (hr.mono (by decide)) (by rfl) O.m_Lis O.F_Lis.kp O.b_Lis .nil pass0 (pa_cons (pe_call (ok_is_whole T O) (hr.mono (by decide)) (by rfl) O.m_is_whole O.F_is_whole.kp O.b_is_whole .nil pass0 (pa_cons (pv 6) (pa_cons pe_int (pa_cons pe_int pa_nil)))) (pa_cons pe_bl pa_nil)))))))) (pss_one (ps_ret pe_bl)) pss_nil)
  (pss_one (ps_if (pt_not (pt_val (pe_call (ok_Lis T O) (hr.mono (by decide)) (by rfl) O.m_Lis O.F_Lis.kp O.b_Lis .nil pass0 (pa_cons (pe_call (ok_is_sequence T O) (hr.mono (by decide)) (by rfl) O.m_is_sequence O.F_is_sequence.kp O.b_is_sequence .nil pass0 (pa_cons (pv 6) pa_nil)) (pa_cons (pe_callB (r := rIsiT K) call_isiT (by rfl) O.z_isinstance (by decide +kernel) (pa_cons (pv 6) (pa_cons (pe_tup (pa_cons (pe_bltn (v := .ty "list") (by rfl) O.z_list (by decide +kernel) rfl) (pa_cons (pe_bltn (v := .ty "tuple") (by rfl) O.z_tuple (by decide +kernel) rfl) pa_nil))) pa_nil))) pa_nil))))) (pss_one (ps_ret pe_bl)) pss_nil))))
  (pss_one (ps_ret pe_bl)))), ?_⟩
  walk_at "r"
  refine ⟨6, rfl, by decide, by decide, ?_⟩
  refine for_range (lo := 0) (n := (6 : Int).toNat) (fun i σ H1 => ∃ y1 y2 y3 y4 y5 y6, σ = [some (.ref h), y1, y2, y3, y4, y5, y6] ∧ Jv.Kp h H H1 ∧ Jv.Hand H1 h l) ⟨_, _, _, _, _, _, rfl, Jv.Kp.refl, hh⟩ ?_ ?_
  · rintro i σ H1 hi ⟨y1, y2, y3, y4, y5, y6, rfl, k1, h1⟩
    walk_at "r"
    refine ⟨fun σ H2 => ∃ z, σ = [some (.ref h), some (.int (0 + (i : Int))), some (.int z), y3, y4, y5, y6] ∧ Jv.Kp h H H2 ∧ Jv.Hand H2 h l, ?_, ?_⟩
    · walk_at "r"
      refine Jv.r_dec (fun _ => ?_) (fun _ => ?_)
      · walk_at "r"
        refine ⟨h, l, _, rfl, h1, ⟨by decide, Jv.log_small (by decide) (by decide)⟩, fun p H2 p0 p1 k2 h2 => ?_⟩
        walk_at "r"
        exact ⟨_, rfl, k1.trans k2, h2⟩
      · walk_at "r"
        refine ⟨h, l, _, rfl, h1, ⟨by decide, Jv.log_small (by decide) (by decide)⟩, fun p H2 p0 p1 k2 h2 => ?_⟩
        walk_at "r"
        exact ⟨_, rfl, k1.trans k2, h2⟩
    · rintro σ H1 ⟨z, rfl, k1, h1⟩
      refine ⟨fun σ H2 => ∃ lo, σ = [some (.ref h), some (.int (0 + (i : Int))), some (.int z), some lo, y4, y5, y6] ∧ Jv.Bd lo ∧ Jv.Kp h H H2 ∧ Jv.Hand H2 h l, ?_, ?_⟩
      · walk_at "r"
        refine ⟨h, l, _, rfl, h1, ⟨by decide, Jv.log_small (by decide) (by decide)⟩, fun p H2 p0 p1 k2 h2 => ?_⟩
        walk_at "r"
        refine Jv.r_decI (fun _ => ?_) (fun _ => ?_)
        · walk_at "r"
          exact ⟨_, rfl, .inl rfl, k1.trans k2, h2⟩
        · walk_at "r"
          refine ⟨h, l, _, rfl, h2, ⟨by decide, Jv.log_small (by decide) (by decide)⟩, fun p H3 p0 p1 k3 h3 => ?_⟩
          walk_at "r"
          exact ⟨_, rfl, .inr ⟨_, rfl⟩, (k1.trans k2).trans k3, h3⟩
      · rintro σ H1 ⟨lo, rfl, hlo, k1, h1⟩
        refine ⟨fun σ H2 => ∃ hi, σ = [some (.ref h), some (.int (0 + (i : Int))), some (.int z), some lo, some hi, y5, y6] ∧ Jv.Bd hi ∧ Jv.Kp h H H2 ∧ Jv.Hand H2 h l, ?_, ?_⟩
        · walk_at "r"
          refine ⟨h, l, _, rfl, h1, ⟨by decide, Jv.log_small (by decide) (by decide)⟩, fun p H2 p0 p1 k2 h2 => ?_⟩
          walk_at "r"
          refine Jv.r_decI (fun _ => ?_) (fun _ => ?_)
          · walk_at "r"
            exact ⟨_, rfl, .inl rfl, k1.trans k2, h2⟩
          · walk_at "r"
            refine ⟨h, l, _, rfl, h2, ⟨by decide, Jv.log_small (by decide) (by decide)⟩, fun p H3 p0 p1 k3 h3 => ?_⟩
            walk_at "r"
            exact ⟨_, rfl, .inr ⟨_, rfl⟩, (k1.trans k2).trans k3, h3⟩
        · rintro σ H1 ⟨hi, rfl, hhi, k1, h1⟩
          refine ⟨fun σ H2 => σ = [some (.ref h), some (.int (0 + (i : Int))), some (.int z), some lo, some hi, some (.bl (Jv.wholeV (.int z) lo hi)), y6] ∧ H2 = H1, ?_, ?_⟩
          · rcases hlo with rfl | ⟨a, rfl⟩
            · rcases hhi with rfl | ⟨b, rfl⟩ <;> walk_at "r" <;> exact ⟨rfl, rfl⟩
            · by_cases ha : z < a
              · rw [Jv.wholeV_lo0 ha]
                walk_at "rr"
                all_goals first | omega | exact ⟨rfl, rfl⟩
              · rw [Jv.wholeV_lo1 ha]
                rcases hhi with rfl | ⟨b, rfl⟩
                · walk_at "rr"
                  all_goals first | omega | exact ⟨rfl, rfl⟩
                · walk_at "rr"
                  all_goals first | omega | exact ⟨rfl, rfl⟩
          · rintro σ H2 ⟨rfl, rfl⟩
            walk_at "r"
            refine ⟨_, _, _, rfl, trivial, hlo, hhi, ?_⟩
            walk_at "r"
            refine ⟨_, _, rfl, ?_⟩
            walk_at "r"
            refine ⟨_, _, _, rfl, trivial, .inl rfl, .inl rfl, ?_⟩
            walk_at "r"
            refine ⟨_, _, rfl, ?_⟩
            walk_at "r"
            rcases hlo with rfl | ⟨a, rfl⟩
            · walk_at "r"
              refine ⟨rfl, rfl, _, _, _, rfl, trivial, .inl rfl, hhi, ?_⟩
              walk_at "r"
              refine ⟨_, _, rfl, ?_⟩
              walk_at "r"
              exact ⟨_, _, _, _, _, _, rfl, k1, h1⟩
            · walk_at "r"
              exact ⟨_, _, _, _, _, _, rfl, k1, h1⟩
  · rintro σ H1 ⟨y1, y2, y3, y4, y5, y6, rfl, k1, h1⟩
    walk_at "r"
    intro a ha
    walk_at "r"
    intro b hb
    walk_at "r"
    intro c hc
    walk_at "r"
    intro d hd
    refine ⟨d, rfl, ⟨_, Jv.sqL_at upd_same⟩, ?_⟩
    have sD := (((Jv.same_new (u := .tup [.int 1]) ha).trans (Jv.same_new (u := .lst [.int 1]) hb)).trans (Jv.same_new (u := .dK [(.inl 1, .int 1)]) hc)).trans (Jv.same_new (u := .lst [.bl true, .bl false, .non, .str "1", .ref a, .ref b, .ref c]) hd)
    generalize eD : upd (upd (upd (upd H1 a (.tup [.int 1])) b (.lst [.int 1])) c (.dK [(.inl 1, .int 1)])) d (.lst [.bl true, .bl false, .non, .str "1", .ref a, .ref b, .ref c]) = HD at sD
    have xs : HD d = some (.lst [.bl true, .bl false, .non, .str "1", .ref a, .ref b, .ref c]) := by rw [← eD, upd_same]
    have th : ∀ v ∈ ([.bl true, .bl false, .non, .str "1", .ref a, .ref b, .ref c] : List V), Jv.Th HD v ∧ Jv.isI v = false := by
      have ea : HD a = some (.tup [.int 1]) := by rw [← eD]; walk_at "hp"
      have eb : HD b = some (.lst [.int 1]) := by rw [← eD]; walk_at "hp"
      have ec : HD c = some (.dK [(.inl 1, .int 1)]) := by rw [← eD]; walk_at "hp"
      intro v hv
      simp only [List.mem_cons, List.mem_nil_iff, or_false] at hv
      rcases hv with rfl | rfl | rfl | rfl | rfl | rfl | rfl
      · exact ⟨trivial, rfl⟩
      · exact ⟨trivial, rfl⟩
      · exact ⟨trivial, rfl⟩
      · exact ⟨trivial, rfl⟩
      · exact ⟨.inr (.inl ⟨_, ea⟩), rfl⟩
      · exact ⟨.inl ⟨_, eb⟩, rfl⟩
      · exact ⟨.inr (.inr ⟨_, ec⟩), rfl⟩
    refine for_list (K := K) (a := d) (xs := [.bl true, .bl false, .non, .str "1", .ref a, .ref b, .ref c]) (fun i σ H2 => ∃ y6, σ = [some (.ref h), y1, y2, y3, y4, y5, y6] ∧ Same HD H2) ⟨_, rfl, fun _ _ e => e⟩ (fun i σ H2 _ ⟨_, _, s⟩ => Jv.sqL_at (s _ _ xs)) ?_ ?_
    · rintro i x σ H2 hx ⟨y6, rfl, s2⟩
      obtain ⟨tx, nx⟩ := th x (List.mem_of_getElem? hx)
      have tx2 := tx.same s2
      walk_at "r"
      refine ⟨_, _, _, rfl, tx2, .inl rfl, .inl rfl, ?_⟩
      rw [Jv.wholeV_not nx]
      walk_at "r"
      refine ⟨_, _, rfl, ?_⟩
      walk_at "r"
      refine ⟨_, _, _, rfl, tx2, .inr ⟨_, rfl⟩, .inr ⟨_, rfl⟩, ?_⟩
      rw [Jv.wholeV_not nx]
      walk_at "r"
      refine ⟨_, _, rfl, ?_⟩
      walk_at "r"
      refine ⟨_, rfl, tx2, fun H3 s3 => ?_⟩
      have tx3 := tx2.same s3
      walk_at "r"
      intro p hp
      walk_at "r"
      rw [Jv.sqOf_same tx2 (s3.trans (Jv.same_new hp))]
      refine ⟨_, _, rfl, ?_⟩
      walk_at "r"
      exact ⟨_, rfl, (s2.trans s3).trans (Jv.same_new hp)⟩
    · rintro σ H2 ⟨y6, rfl, s2⟩
      walk_at "r"
      exact k _ (k1.trans (Jv.Kp.same (sD.trans s2))) (h1.same (sD.trans s2))
end
end K01

namespace K01
open PySem PySem.Spec PyProof.Rows L2
theorem Kp_free {h t : Addr} {H H' : Hp} (k : Jv.Kp h H H') (n : H' t = none) (ne : t ≠ h) : H t = none := by
  cases e : H t with
  | none => rfl
  | some o => rw [k t o ne e] at n; cases n
/-- a list of lists of numbers, none of them the hand -/
def Tries (H : Hp) (h t : Addr) (refs : List V) : Prop := H t = some (.lst refs) ∧ t ≠ h ∧ ∀ v ∈ refs, ∃ (a : Addr) (ns : List Int), v = V.ref a ∧ a ≠ h ∧ a ≠ t ∧ H a = some (.lst (ns.map V.int)) ∧ ns.length ≤ 10
theorem Tries.kp {H H' : Hp} {h t : Addr} {refs : List V} (q : Tries H h t refs) (k : Jv.Kp h H H') : Tries H' h t refs :=
  ⟨k _ _ q.2.1 q.1, q.2.1, fun v hv => by
    obtain ⟨a, ns, e, n1, n2, ha, few⟩ := q.2.2 v hv
    exact ⟨a, ns, e, n1, n2, k _ _ n1 ha, few⟩⟩
theorem Tries.app {H : Hp} {h t a : Addr} {refs : List V} {ns : List Int} (q : Tries H h t refs) (n1 : a ≠ h) (n2 : a ≠ t) (ha : H a = some (.lst (ns.map V.int))) (few : ns.length ≤ 10) : Tries (upd H t (.lst (refs ++ [.ref a]))) h t (refs ++ [.ref a]) :=
  ⟨upd_same, q.2.1, fun v hv => by
    rcases List.mem_append.mp hv with hv | hv
    · obtain ⟨b, ms, e, m1, m2, hb, f⟩ := q.2.2 v hv
      exact ⟨b, ms, e, m1, m2, by rw [upd_ne m2]; exact hb, f⟩
    · rw [List.mem_singleton.mp hv]
      exact ⟨a, ns, rfl, n1, n2, by rw [upd_ne n2]; exact ha, few⟩⟩
theorem Hand_upd {H : Hp} {h l t : Addr} {o : HO} {xs : List V} (q : Jv.Hand H h l) (n : t ≠ h) (m : t ≠ l) : Jv.Hand (upd H t o) h l := by
  obtain ⟨ns, k, c, u, hA⟩ := q
  exact ⟨ns, k, c, u, by rw [upd_ne n.symm]; exact hA.hp, by rw [upd_ne m.symm]; exact hA.hl, hA.nn, hA.few, hA.bd⟩
theorem bit_of {i : Nat} {x : V} (h : ([.int 1, .int 2, .int 4, .int 8, .int 16, .int 32] : List V)[i]? = some x) : ∃ z, x = .int z ∧ 0 < z ∧ z ≤ 32 := by
  have m := List.mem_of_getElem? h
  simp only [List.mem_cons, List.mem_nil_iff, or_false] at m
  rcases m with rfl | rfl | rfl | rfl | rfl | rfl <;> exact ⟨_, rfl, by decide, by decide⟩
theorem eqv_bad (s : Int) : PyData.eqv (.list [.str "bad", .int s]) (.list [.str "bad", .int s]) = true := by
  simp [PyData.eqv, PyData.eqvAll]
theorem shaped_bad (s : Int) : SeqAt.shaped (.list [.str "bad", .int s]) = true := Jv.shaped_bad rfl rfl
section
variable {P : Program} {w : World} {K : PySem.W.Frag} {mg : Str → Option Value} {base : Heap}
theorem dp_bad {H : Hp} {a : Addr} {s : Int} (h : H a = some (.lst [.str "bad", .int s])) : Dp K H (.ref a) (.list [.str "bad", .int s]) := .lst (Jv.sqL_at h) (.cons (.str _) (.cons (.int _) .nil))
theorem ok_Llots_right (T : Tx) (O : Ok K mg T) : FnOk P w K mg base CX0 6 T.f_Llots_right T.d_Llots_right ["_law_hand_here"] sp_LR := by
  refine O.F_Llots_right.ok sc_Llots_right (fun vs H Q E h => by obtain ⟨_, _, rfl, _⟩ := h; rfl) (fun cdv A outer s H vs Q E hr h => ?_)
  obtain ⟨h, l, rfl, hh, k⟩ := h
  refine ⟨_, (pss_cons (ps_set (i := 1) sc_Llots_right.nd rfl (Or.inr rfl) (pe_op op_add pe_int (pe_call (ok_Ldraw T O) (hr.mono (by decide)) (by rfl) O.m_Ldraw O.F_Ldraw.kp O.b_Ldraw .nil pass0 (pa_cons (pv 0) (pa_cons pe_int pa_nil)))))
  (pss_cons (ps_set (i := 2) sc_Llots_right.nd rfl (Or.inl rfl) (pe_call (ok_Ldraw T O) (hr.mono (by decide)) (by rfl) O.m_Ldraw O.F_Ldraw.kp O.b_Ldraw .nil pass0 (pa_cons (pv 0) (pa_cons pe_int pa_nil))))
  (pss_cons (ps_set (i := 3) sc_Llots_right.nd rfl (Or.inl rfl) (pe_lst pa_nil))
  (pss_cons (ps_for PassesOwn.never rfl (pi_range1 (by rfl) O.z_range (pa_cons pe_int pa_nil)) (pg_name (i := 4) sc_Llots_right.nd rfl (Or.inr rfl)) (pss_cons (ps_setLc (i := 5) (own := [("_law_kind", 10), ("_law_bit", 11)]) (by rfl) sc_Llots_right.nd rfl rfl (sw_true rfl rfl rfl (by decide +kernel)) (show PI _ _ _ (iEnum K _) from pi_enum (by rfl) O.z_enumerate (pa_cons (pe_lst (pa_cons pe_int (pa_cons pe_int (pa_cons pe_int (pa_cons pe_int (pa_cons pe_int (pa_cons pe_int pa_nil))))))) pa_nil)) (blkOk_by (own := [("_law_kind", 10), ("_law_bit", 11)]) (N := ["_law_hand_here", "_law_kinds", "_law_side", "_law_tries", "_law_mask", "_law_lot", "_law_turn", "_law_due", "_law_told", "_law_thing", "_law_kind", "_law_bit", "_law_place"]) (sc := defScope s_Llots_right) (by decide +kernel)) (fun _ _ _ _ _ => (show PG _ _ (gTup K 2 _) from pg_tup rfl (pgs_cons (pg_name (i := 10) sc_Llots_right.nd rfl (Or.inl rfl) (Or.inr rfl)) (pgs_cons (pg_name (i := 11) sc_Llots_right.nd rfl (Or.inl rfl) (Or.inr rfl)) pgs_nil)))) (fun _ _ _ _ _ => (pts_one (pt_cmpR op_eq (pe_op op_mod (pe_op op_fdivW (pv 4) (pv 11)) pe_int) pe_int (nomark _)))) (fun _ _ _ _ _ => (pv 10)))
  (pss_one (ps_expr (show PE _ _ (tBM K _ _ _ _) from pe_bm PySem.F.plainAttrs_list PySem.F.slot_list_append PySem.F.type_list_append mt_append (pv 3) (pa_cons (pv 5) pa_nil))))))
  (pss_cons (ps_for PassesOwn.never rfl (pi_range1 (by rfl) O.z_range (pa_cons pe_int pa_nil)) (pg_name (i := 6) sc_Llots_right.nd rfl (Or.inl rfl)) (pss_one (ps_expr (show PE _ _ (tBM K _ _ _ _) from pe_bm PySem.F.plainAttrs_list PySem.F.slot_list_append PySem.F.type_list_append mt_append (pv 3) (pa_cons (pe_lc (own := [("_law_place", 12)]) (by rfl) sc_Llots_right.nd (pi_range1 (by rfl) O.z_range (pa_cons (pe_call (ok_Ldraw T O) (hr.mono (by decide)) (by rfl) O.m_Ldraw O.F_Ldraw.kp O.b_Ldraw .nil pass0 (pa_cons (pv 0) (pa_cons pe_int pa_nil))) pa_nil)) (blkOk_by (own := [("_law_place", 12)]) (N := ["_law_hand_here", "_law_kinds", "_law_side", "_law_tries", "_law_mask", "_law_lot", "_law_turn", "_law_due", "_law_told", "_law_thing", "_law_kind", "_law_bit", "_law_place"]) (sc := defScope s_Llots_right) (by decide +kernel)) (fun _ _ _ _ _ => (pg_name (i := 12) sc_Llots_right.nd rfl (Or.inl rfl))) (fun _ _ _ _ _ => pts_nil) (fun _ _ _ _ _ => (pe_op op_sub (pe_call (ok_Ldraw T O) (hr.mono (by decide)) (by rfl) O.m_Ldraw O.F_Ldraw.kp O.b_Ldraw .nil pass0 (pa_cons (pv 0) (pa_cons (pe_op op_add (pv 1) pe_int) pa_nil))) pe_int))) pa_nil)))))
  (pss_cons (ps_for PassesOwn.never rfl (show PI _ _ _ (iList K _) from pi_list (pv 3)) (pg_name (i := 5) sc_Llots_right.nd rfl (Or.inl rfl)) (pss_cons (ps_set (i := 7) sc_Llots_right.nd rfl (Or.inl rfl) (pe_call (ok_Lrises T O) (hr.mono (by decide)) (by rfl) O.m_Lrises O.F_Lrises.kp O.b_Lrises .nil pass0 (pa_cons (pv 5) (pa_cons (pv 1) pa_nil))))
  (pss_cons (ps_if (PW.pt (pw_or (pt_not (pt_val (pe_call (ok_Lis T O) (hr.mono (by decide)) (by rfl) O.m_Lis O.F_Lis.kp O.b_Lis .nil pass0 (pa_cons (pe_call (ok_is_lot T O) (hr.mono (by decide)) (by rfl) O.m_is_lot O.F_is_lot.kp O.b_is_lot .nil pass0 (pa_cons (pv 5) (pa_cons (pv 1) pa_nil))) (pa_cons (pv 7) pa_nil))))) (pw_or1 (pt_not (pt_val (pe_call (ok_Lis T O) (hr.mono (by decide)) (by rfl) O.m_Lis O.F_Lis.kp O.b_Lis .nil pass0 (pa_cons (pe_call (ok_is_lot T O) (hr.mono (by decide)) (by rfl) O.m_is_lot O.F_is_lot.kp O.b_is_lot .nil pass0 (pa_cons (pe_callTy (r := Jv.rTupOf K) call_tuple_of (by rfl) O.z_tuple (by decide +kernel) (pa_cons (pv 5) pa_nil)) (pa_cons (pv 1) pa_nil))) (pa_cons (pv 7) pa_nil)))))))) (pss_one (ps_ret pe_bl)) pss_nil)
  (pss_cons (ps_set (i := 8) sc_Llots_right.nd rfl (Or.inl rfl) (pe_call (ok_Llot_told T O) (hr.mono (by decide)) (by rfl) O.m_Llot_told O.F_Llot_told.kp O.b_Llot_told .nil pass0 (pa_cons (pv 5) (pa_cons (pv 1) (pa_cons (pv 2) pa_nil)))))
  (pss_one (ps_if (PW.pt (pw_or (pt_cmpR (r := rNeD K) (op_neD hr.units) (pv 8) (pe_ifExp (pt_val (pv 7)) (pe_callTy (r := Jv.rTupOf K) call_tuple_of (by rfl) O.z_tuple (by decide +kernel) (pa_cons (pv 5) pa_nil)) (pe_lst (pa_cons pe_str (pa_cons (pv 2) pa_nil)))) (nomark _)) (pw_or1 (pt_cmpR (r := rNeD K) (op_neD hr.units) (pe_call (ok_Llot_told T O) (hr.mono (by decide)) (by rfl) O.m_Llot_told O.F_Llot_told.kp O.b_Llot_told .nil pass0 (pa_cons (pe_callTy (r := Jv.rTupOf K) call_tuple_of (by rfl) O.z_tuple (by decide +kernel) (pa_cons (pv 5) pa_nil)) (pa_cons (pv 1) (pa_cons (pv 2) pa_nil)))) (pv 8) (nomark _))))) (pss_one (ps_ret pe_bl)) pss_nil))))))
  (pss_cons (ps_for PassesOwn.never rfl (show PI _ _ _ (iList K _) from pi_list (pe_lst (pa_cons pe_non (pa_cons pe_int (pa_cons pe_str (pa_cons (pe_disp (pps_cons pe_int pe_int pps_nil) (by rfl) (by rfl) (fun z => by cases z) (by decide)) (pa_cons (pe_tup (pa_cons pe_bl pa_nil)) (pa_cons (pe_lst (pa_cons pe_non pa_nil)) (pa_cons (pe_tup (pa_cons (pe_tup (pa_cons pe_int pa_nil)) pa_nil)) pa_nil))))))))) (pg_name (i := 9) sc_Llots_right.nd rfl (Or.inl rfl)) (pss_one (ps_if (PW.pt (pw_or (pt_not (pt_val (pe_call (ok_Lis T O) (hr.mono (by decide)) (by rfl) O.m_Lis O.F_Lis.kp O.b_Lis .nil pass0 (pa_cons (pe_call (ok_is_lot T O) (hr.mono (by decide)) (by rfl) O.m_is_lot O.F_is_lot.kp O.b_is_lot .nil pass0 (pa_cons (pv 9) (pa_cons (pv 1) pa_nil))) (pa_cons pe_bl pa_nil))))) (pw_or1 (pt_cmpR (r := rNeD K) (op_neD hr.units) (pe_call (ok_Llot_told T O) (hr.mono (by decide)) (by rfl) O.m_Llot_told O.F_Llot_told.kp O.b_Llot_told .nil pass0 (pa_cons (pv 9) (pa_cons (pv 1) (pa_cons (pv 2) pa_nil)))) (pe_lst (pa_cons pe_str (pa_cons (pv 2) pa_nil))) (nomark _))))) (pss_one (ps_ret pe_bl)) pss_nil)))
  (pss_one (ps_ret pe_bl))))))))), ?_⟩
  walk_at "r"
  refine ⟨h, l, _, rfl, hh, ⟨by decide, Jv.log_small (by decide) (by decide)⟩, fun kk H1 kk0 kk1 k1 h1 => ?_⟩
  walk_at "r"
  refine ⟨h, l, _, rfl, h1, ⟨by decide, Jv.log_small (by decide) (by decide)⟩, fun sd H2 sd0 sd1 k2 h2 => ?_⟩
  walk_at "r"
  intro t ht
  walk_at "r"
  refine ⟨64, rfl, by decide, by decide, ?_⟩
  have kt : Jv.Kp h H (upd H2 t (.lst [])) := (k1.trans k2).trans (Jv.Kp.new ht)
  have h3 : Jv.Hand (upd H2 t (.lst [])) h l := h2.same (Jv.same_new ht)
  obtain ⟨ho, eho⟩ := h2.at
  have nth : t ≠ h := (ne_of_none eho ht).symm
  have ht0 : H t = none := Kp_free (k1.trans k2) ht nth
  have ntl : t ≠ l := by
    obtain ⟨ns, a1, a2, a3, hA⟩ := h2
    exact (ne_of_none hA.hl ht).symm
  have mb : 1 ≤ 1 + kk ∧ 1 + kk ≤ 6 := by omega
  generalize (1 + kk : Int) = m at *
  refine for_range (lo := 0) (n := (64 : Int).toNat) (fun i σ H1 => ∃ y4 y5 refs, σ = [some (.ref h), some (.int m), some (.int sd), some (.ref t), y4, y5, none, none, none, none, none, none, none] ∧ Jv.Kp h H H1 ∧ Jv.Hand H1 h l ∧ Tries H1 h t refs ∧ refs.length = i) ⟨_, _, [], rfl, kt, h3, ⟨upd_same, nth, fun v hv => by cases hv⟩, rfl⟩ ?_ ?_
  · rintro i σ H1 hi ⟨y4, y5, refs, rfl, k1, h1, tr, lr⟩
    walk_at "r"
    refine Jv.r_lc ?_
    walk_at "r"
    intro a ha
    refine ⟨a, _, rfl, Jv.sqL_at upd_same, ?_⟩
    intro D hD
    have sA := Jv.same_new (u := .lst [.int 1, .int 2, .int 4, .int 8, .int 16, .int 32]) ha
    have hD1 : H1 D = none := sA.free hD
    obtain ⟨ho, eho⟩ := h1.at
    have nDh : D ≠ h := (ne_of_none eho hD1).symm
    have nDt : D ≠ t := (ne_of_none tr.1 hD1).symm
    have hi64 : i < 64 := hi
    refine lc_it (walk_enum (K := K) (a := a) (xs := [.int 1, .int 2, .int 4, .int 8, .int 16, .int 32])) (fun j H2 => ∃ zs : List Int, Same (upd H1 a (.lst [.int 1, .int 2, .int 4, .int 8, .int 16, .int 32])) H2 ∧ H2 D = some (.lst (zs.map V.int)) ∧ zs.length ≤ j) ⟨[], Jv.same_new hD, upd_same, Nat.le_refl _⟩ (fun j H2 _ ⟨_, s2, _⟩ => s2.seq (Jv.sqL_at upd_same)) ?_ ?_
    · rintro j x H2 H3 hj ⟨zs, s2, e2, lz⟩ ⟨p, x1, x2, rfl, hp, rfl, hx, hy⟩
      cases hx
      obtain ⟨z, rfl, z0, z1⟩ := bit_of hy
      have hj6 : j < 6 := hj
      walk_at "r"
      refine Jv.r_decI (fun _ => ?_) (fun _ => ?_)
      · walk_at "r"
        refine ⟨zs.map V.int, Jv.kp e2 hp, ?_, zs ++ [(j : Int)], ?_, ?_, ?_⟩
        · rw [List.length_map]; exact Jv.small_lt (by omega)
        · intro b o e; exact Jv.kpO (Jv.kp (s2 b o e) hp) (ne_of_none e hD)
        · rw [upd_same, List.map_append]; rfl
        · rw [List.length_append]; simp; exact lz
      · exact ⟨zs, s2.trans (Jv.same_new hp), Jv.kp e2 hp, by omega⟩
    · rintro H2 ⟨zs, s2, e2, lz⟩
      have lz6 : zs.length ≤ 6 := lz
      have s3 := sA.trans s2
      have tr2 := tr.kp (Jv.Kp.same s3)
      have h2 := h1.same s3
      walk_at "r"
      refine Jv.r_tyL tr2.1 ?_
      walk_at "r"
      refine Jv.r_app tr2.1 (by omega) ?_
      refine ⟨_, _, refs ++ [.ref D], rfl, ?_, Hand_upd (xs := []) h2 nth ntl, tr2.app nDh nDt e2 (by omega), by rw [List.length_append, lr]; rfl⟩
      intro b o nb hb
      rw [upd_ne (ne_of_none hb ht0)]
      exact s3 _ _ (k1 b o nb hb)
  · rintro σ H1 ⟨y4, y5, refs, rfl, k1, h1, tr, lr⟩
    have lr64 : refs.length = 64 := lr
    walk_at "r"
    refine ⟨8, rfl, by decide, by decide, ?_⟩
    refine for_range (lo := 0) (n := (8 : Int).toNat) (fun i σ H1 => ∃ y6 refs, σ = [some (.ref h), some (.int m), some (.int sd), some (.ref t), y4, y5, y6, none, none, none, none, none, none] ∧ Jv.Kp h H H1 ∧ Jv.Hand H1 h l ∧ Tries H1 h t refs ∧ refs.length = 64 + i) ⟨_, refs, rfl, k1, h1, tr, lr64⟩ ?_ ?_
    · rintro i σ H1 hi ⟨y6, refs, rfl, k1, h1, tr, lr⟩
      have hi8 : i < 8 := hi
      walk_at "r"
      refine Jv.r_tyL tr.1 ?_
      walk_at "r"
      refine Jv.r_lc ?_
      walk_at "r"
      refine ⟨h, l, _, rfl, h1, ⟨by decide, Jv.log_small (by decide) (by decide)⟩, fun q H2 q0 q1 k2 h2 => ?_⟩
      walk_at "r"
      refine ⟨q, rfl, by omega, by omega, ?_⟩
      intro D hD
      obtain ⟨ho, eho⟩ := h2.at
      have tr2 := tr.kp k2
      have nDh : D ≠ h := (ne_of_none eho hD).symm
      have nDt : D ≠ t := (ne_of_none tr2.1 hD).symm
      refine lc_it (walk_range (lo := 0) (n := q.toNat)) (fun j H3 => ∃ zs : List Int, Jv.Kp h H2 H3 ∧ Jv.Hand H3 h l ∧ H3 D = some (.lst (zs.map V.int)) ∧ zs.length ≤ j) ⟨[], Jv.Kp.new hD, h2.same (Jv.same_new hD), upd_same, Nat.le_refl _⟩ (fun j H2 _ _ => trivial) ?_ ?_
      · rintro j x H3 H4 hj ⟨zs, k3, h3, e3, lz⟩ ⟨rfl, rfl⟩
        walk_at "r"
        refine ⟨h, l, _, rfl, h3, ⟨by omega, Jv.log_small (by omega) (by omega)⟩, fun r H5 r0 r1 k5 h5 => ?_⟩
        walk_at "r"
        have e5 := k5 _ _ nDh e3
        refine ⟨zs.map V.int, e5, ?_, zs ++ [r - 1], ?_, ?_, ?_, ?_⟩
        · rw [List.length_map]; exact Jv.small_lt (by omega)
        · intro b o nb hb; exact Jv.kpO (k5 _ _ nb (k3 b o nb hb)) (ne_of_none hb hD)
        · have nDl : D ≠ l := fun e => by
            obtain ⟨ns, a1, a2, a3, hA⟩ := h2
            rw [e, hA.hl] at hD; cases hD
          exact Hand_upd (xs := []) h5 nDh nDl
        · rw [upd_same, List.map_append]; rfl
        · rw [List.length_append]; simp; exact lz
      · rintro H3 ⟨zs, k3, h3, e3, lz⟩
        have tr3 := tr2.kp k3
        walk_at "r"
        refine Jv.r_app tr3.1 (by omega) ?_
        refine ⟨_, refs ++ [.ref D], rfl, ?_, Hand_upd (xs := []) h3 nth ntl, tr3.app nDh nDt e3 (by omega), by rw [List.length_append, lr]; rfl⟩
        intro b o nb hb
        rw [upd_ne (ne_of_none hb ht0)]
        exact k3 _ _ nb (k2 _ _ nb (k1 b o nb hb))
    · rintro σ H1 ⟨y6, refs, rfl, k1, h1, tr, lr⟩
      walk_at "r"
      refine ⟨t, rfl, ⟨_, Jv.sqL_at tr.1⟩, ?_⟩
      refine for_list (K := K) (a := t) (xs := refs) (fun i σ H2 => ∃ y5 y7 y8, σ = [some (.ref h), some (.int m), some (.int sd), some (.ref t), y4, y5, y6, y7, y8, none, none, none, none] ∧ Same H1 H2) ⟨_, _, _, rfl, fun _ _ e => e⟩ (fun i σ H2 _ ⟨_, _, _, _, s2⟩ => Jv.sqL_at (s2 _ _ tr.1)) ?_ ?_
      · rintro i x σ H2 hx ⟨y5, y7, y8, rfl, s2⟩
        obtain ⟨a, ns, rfl, na, nt, ha1, few⟩ := tr.2.2 x (List.mem_of_getElem? hx)
        have ha := s2 _ _ ha1
        have sq : Jv.Sq H2 (.ref a) (ns.map V.int) := ⟨a, rfl, .inl ha⟩
        walk_at "r"
        refine ⟨a, ns, m, rfl, Jv.sqL_at ha, by omega, ?_⟩
        walk_at "r"
        refine ⟨_, _, rfl, Jv.thS_ints (.inl ha) (by omega), fun H3 s3 => ?_⟩
        rw [Jv.lotV_of sq.of]
        walk_at "r"
        refine ⟨_, _, rfl, ?_⟩
        walk_at "r"
        refine ⟨a, _, rfl, .inl ⟨Jv.sqL_at (s3 _ _ ha), fun b hb => ?_⟩⟩
        have sqb : Jv.Sq (upd H3 b (.tup (ns.map V.int))) (.ref b) (ns.map V.int) := ⟨b, rfl, .inr upd_same⟩
        walk_at "r"
        refine ⟨_, _, rfl, Jv.thS_ints (.inr upd_same) (by omega), fun H4 s4 => ?_⟩
        rw [Jv.lotV_of sqb.of]
        walk_at "r"
        refine ⟨_, _, rfl, ?_⟩
        walk_at "r"
        have s24 := (s3.trans (Jv.same_new (u := .tup (ns.map V.int)) hb)).trans s4
        have ha4 := s24 _ _ ha
        have sq4 : Jv.Sq H4 (.ref a) (ns.map V.int) := ⟨a, rfl, .inl ha4⟩
        have hl4 := Jv.lotV_of (k := m) sq4.of
        refine ⟨_, _, _, rfl, Jv.thS_ints (.inl ha4) (by omega), fun e p xs H5 s5 q5 hp => ?_, fun e p H5 s5 hp => ?_⟩
        · rw [hl4] at e
          have exs : xs = ns.map V.int := by
            have := q5.of; rw [sq4.of] at this; exact (Option.some.inj this).symm
          subst exs
          have ha5 := s5 _ _ ha4
          walk_at "r"
          rw [e]
          walk_at "r"
          refine ⟨a, _, rfl, .inl ⟨Jv.sqL_at ha5, fun c hc => ?_⟩⟩
          walk_at "r"
          refine ⟨_, _, Jv.dpT (Jv.sqT_at (Jv.kp hp hc)), Jv.dpT (Jv.sqT_at upd_same), Jv.shapedT _, Jv.shapedT _, ?_⟩
          rw [Jv.eqvT, decide_eq_true rfl]
          walk_at "r"
          refine ⟨a, _, rfl, .inl ⟨Jv.sqL_at (Jv.kp ha5 hc), fun d hd => ?_⟩⟩
          walk_at "r"
          have sqd : Jv.Sq (upd (upd H5 c (.tup (ns.map V.int))) d (.tup (ns.map V.int))) (.ref d) (ns.map V.int) := ⟨d, rfl, .inr upd_same⟩
          have hld := Jv.lotV_of (k := m) sqd.of
          refine ⟨_, _, _, rfl, Jv.thS_ints (.inr upd_same) (by omega), fun e2 p2 xs2 H6 s6 q6 hp2 => ?_, fun e2 => ?_⟩
          · have exs : xs2 = ns.map V.int := by
              have := q6.of; rw [sqd.of] at this; exact (Option.some.inj this).symm
            subst exs
            walk_at "r"
            refine ⟨_, _, Jv.dpT (Jv.sqT_at hp2), Jv.dpT (Jv.sqT_at (s6 _ _ (Jv.kp (Jv.kp hp hc) hd))), Jv.shapedT _, Jv.shapedT _, ?_⟩
            rw [Jv.eqvT, decide_eq_true rfl]
            walk_at "r"
            exact ⟨_, _, _, rfl, (((s2.trans s24).trans s5).trans ((Jv.same_new hc).trans (Jv.same_new hd))).trans s6⟩
          · rw [hld, e] at e2; cases e2
        · rw [hl4] at e
          have ha5 := s5 _ _ ha4
          walk_at "r"
          rw [e]
          walk_at "r"
          intro c hc
          walk_at "r"
          refine ⟨_, _, dp_bad (Jv.kp hp hc), dp_bad upd_same, shaped_bad _, shaped_bad _, ?_⟩
          rw [eqv_bad]
          walk_at "r"
          refine ⟨a, _, rfl, .inl ⟨Jv.sqL_at (Jv.kp ha5 hc), fun d hd => ?_⟩⟩
          walk_at "r"
          have sqd : Jv.Sq (upd (upd H5 c (.lst [.str "bad", .int sd])) d (.tup (ns.map V.int))) (.ref d) (ns.map V.int) := ⟨d, rfl, .inr upd_same⟩
          have hld := Jv.lotV_of (k := m) sqd.of
          refine ⟨_, _, _, rfl, Jv.thS_ints (.inr upd_same) (by omega), fun e2 => ?_, fun e2 p2 H6 s6 hp2 => ?_⟩
          · rw [hld, e] at e2; cases e2
          · walk_at "r"
            refine ⟨_, _, dp_bad hp2, dp_bad (s6 _ _ (Jv.kp (Jv.kp hp hc) hd)), shaped_bad _, shaped_bad _, ?_⟩
            rw [eqv_bad]
            walk_at "r"
            exact ⟨_, _, _, rfl, (((s2.trans s24).trans s5).trans ((Jv.same_new hc).trans (Jv.same_new hd))).trans s6⟩
      · rintro σ H2 ⟨y5, y7, y8, rfl, s2⟩
        walk_at "r"
        intro a ha
        walk_at "r"
        intro b hb
        walk_at "r"
        intro c hc
        walk_at "r"
        intro d hd
        walk_at "r"
        intro e he
        walk_at "r"
        intro f hf
        refine ⟨f, rfl, ⟨_, Jv.sqL_at upd_same⟩, ?_⟩
        have sD := (((((Jv.same_new (u := .dK [(.inl 0, .int 0)]) ha).trans (Jv.same_new (u := .tup [.bl false]) hb)).trans (Jv.same_new (u := .lst [.non]) hc)).trans (Jv.same_new (u := .tup [.int 0]) hd)).trans (Jv.same_new (u := .tup [.ref d]) he)).trans (Jv.same_new (u := .lst [.non, .int 0, .str "0", .ref a, .ref b, .ref c, .ref e]) hf)
        generalize eD : upd (upd (upd (upd (upd (upd H2 a (.dK [(.inl 0, .int 0)])) b (.tup [.bl false])) c (.lst [.non])) d (.tup [.int 0])) e (.tup [.ref d])) f (.lst [.non, .int 0, .str "0", .ref a, .ref b, .ref c, .ref e]) = HD at sD
        have xs : HD f = some (.lst [.non, .int 0, .str "0", .ref a, .ref b, .ref c, .ref e]) := by rw [← eD, upd_same]
        have th : ∀ v ∈ ([.non, .int 0, .str "0", .ref a, .ref b, .ref c, .ref e] : List V), Jv.BadTh HD v := by
          have ea : HD a = some (.dK [(.inl 0, .int 0)]) := by rw [← eD]; walk_at "hp"
          have eb : HD b = some (.tup [.bl false]) := by rw [← eD]; walk_at "hp"
          have ec : HD c = some (.lst [.non]) := by rw [← eD]; walk_at "hp"
          have ed : HD d = some (.tup [.int 0]) := by rw [← eD]; walk_at "hp"
          have ee : HD e = some (.tup [.ref d]) := by rw [← eD]; walk_at "hp"
          intro v hv
          simp only [List.mem_cons, List.mem_nil_iff, or_false] at hv
          rcases hv with rfl | rfl | rfl | rfl | rfl | rfl | rfl
          · exact Jv.bad_sc trivial rfl
          · exact Jv.bad_sc trivial rfl
          · exact Jv.bad_sc trivial rfl
          · exact Jv.bad_dK ea
          · exact Jv.bad_sq (.inr eb) (by decide) (fun v hv => by rw [List.mem_singleton.mp hv]; trivial) rfl
          · exact Jv.bad_sq (.inl ec) (by decide) (fun v hv => by rw [List.mem_singleton.mp hv]; trivial) rfl
          · exact Jv.bad_sq (.inr ee) (Nat.le_of_ble_eq_true rfl) (fun v hv => by rw [List.mem_singleton.mp hv]; exact .inr (.inl ⟨_, ed⟩)) rfl
        refine for_list (K := K) (a := f) (xs := [.non, .int 0, .str "0", .ref a, .ref b, .ref c, .ref e]) (fun i σ H3 => ∃ y9, σ = [some (.ref h), some (.int m), some (.int sd), some (.ref t), y4, y5, y6, y7, y8, y9, none, none, none] ∧ Same HD H3) ⟨_, rfl, fun _ _ e => e⟩ (fun i σ H2 _ ⟨_, _, s⟩ => Jv.sqL_at (s _ _ xs)) ?_ ?_
        · rintro i x σ H3 hx ⟨y9, rfl, s3⟩
          have tx := (th x (List.mem_of_getElem? hx)).same s3
          walk_at "r"
          refine ⟨_, _, rfl, tx.1, fun H4 s4 => ?_⟩
          rw [tx.lot]
          walk_at "r"
          refine ⟨_, _, rfl, ?_⟩
          have tx4 := tx.same s4
          walk_at "r"
          refine ⟨_, _, _, rfl, tx4.1, fun e2 => ?_, fun e2 p H5 s5 hp => ?_⟩
          · rw [tx4.lot] at e2; cases e2
          · walk_at "r"
            intro q hq
            refine ⟨_, _, dp_bad (Jv.kp hp hq), dp_bad upd_same, shaped_bad _, shaped_bad _, ?_⟩
            rw [eqv_bad]
            walk_at "r"
            exact ⟨_, rfl, ((s3.trans s4).trans s5).trans (Jv.same_new hq)⟩
        · rintro σ H3 ⟨y9, rfl, s3⟩
          have s13 := (s2.trans sD).trans s3
          walk_at "r"
          exact k _ (k1.trans (Jv.Kp.same s13)) (h1.same s13)
end
end K01

namespace K01
open PySem PySem.Spec PyProof.Rows L2
theorem inK_perm {m : Int} {ns : List Int} (p : ns.Perm (Jv.rgI m.toNat)) : Jv.inK m ns := by
  intro n hn
  have := p.mem_iff.mp hn
  unfold Jv.rgI at this
  rw [List.mem_map] at this
  obtain ⟨i, hi, rfl⟩ := this
  rw [List.mem_range] at hi
  omega
theorem order_perm {m : Int} {ns : List Int} (p : ns.Perm (Jv.rgI m.toNat)) : Jv.orderP m ns := ⟨inK_perm p, p⟩
theorem order_iff {m : Int} {ns ms : List Int} (pm : ms.Perm ns) (so : ms.Pairwise (· ≤ ·)) : Jv.orderP m ns ↔ ms = Jv.rgI m.toNat :=
  ⟨fun h => Jv.sorted_perm so (Jv.range_sorted _) (pm.trans h.2), fun h => order_perm (by rw [← h]; exact pm.symm)⟩
theorem len_perm {m : Int} {ns : List Int} (p : ns.Perm (Jv.rgI m.toNat)) : ns.length = m.toNat := by
  rw [p.length_eq]; simp [Jv.rgI]
theorem iv_none {b : Bool} : ∀ {xs : List V}, V.bl b ∈ xs → Jv.intsV xs = none
  | .int i :: r, h => by
    rcases List.mem_cons.mp h with h | h
    · cases h
    · show (Jv.intsV r).map (i :: ·) = none
      rw [iv_none h]; rfl
  | .non :: _, _ => rfl
  | .bl _ :: _, _ => rfl
  | .str _ :: _, _ => rfl
  | .byt _ :: _, _ => rfl
  | .flt _ :: _, _ => rfl
  | .ref _ :: _, _ => rfl
  | .ty _ :: _, _ => rfl
theorem cut1 (ns : List Int) : cutV (ns.map V.int) (some 1) none = (ns.drop 1).map V.int := by
  unfold cutV
  rw [HT.sIx_none, show (some (1 : Int)) = some ((1 : Nat) : Int) from rfl, HT.sIx_nat]
  cases ns with
  | nil => rfl
  | cons a r => simp; rw [List.take_of_length_le (by simp)]
theorem _root_.Jv.r_sl {r : V → Option Int → Option Int → Hp → VK → Prop} {te : TE} {tl th : TO} {σ : L2.St} {H : Hp} {Q : VK} (h : te σ H fun x H1 => tl σ H1 fun l H2 => th σ H2 fun u H3 => r x l u H3 Q) : tSl r te tl th σ H Q := h
theorem _root_.Jv.r_partC {σ : L2.St} {H : Hp} {k : Int} {Q : Option Int → Hp → Prop} (h : Q (some k) H) : tPart (tC (.int k)) σ H Q := ⟨k, rfl, h⟩
theorem _root_.Jv.r_noPart {σ : L2.St} {H : Hp} {Q : Option Int → Hp → Prop} (h : Q none H) : tNoPart σ H Q := h
def truthV (v : V) : V := if v = .int 1 then .bl true else v
section
variable {P : Program} {w : World} {K : PySem.W.Frag} {mg : Str → Option Value} {base : Heap}
theorem ok_Lorders_right (T : Tx) (O : Ok K mg T) : FnOk P w K mg base CX0 4 T.f_Lorders_right T.d_Lorders_right ["_law_hand_here"] sp_LR := by
  refine O.F_Lorders_right.ok sc_Lorders_right (fun vs H Q E h => by obtain ⟨_, _, rfl, _⟩ := h; rfl) (fun cdv A outer s H vs Q E hr h => ?_)
  obtain ⟨h, l, rfl, hh, k⟩ := h
  refine ⟨_, (pss_cons (ps_for PassesOwn.never rfl (pi_range1 (by rfl) O.z_range (pa_cons pe_int pa_nil)) (pg_name (i := 1) sc_Lorders_right.nd rfl (Or.inl rfl)) (pss_cons (ps_set (i := 2) sc_Lorders_right.nd rfl (Or.inl rfl) (pe_op op_add pe_int (pe_call (ok_Ldraw T O) (hr.mono (by decide)) (by rfl) O.m_Ldraw O.F_Ldraw.kp O.b_Ldraw .nil pass0 (pa_cons (pv 0) (pa_cons pe_int pa_nil)))))
  (pss_cons (ps_set (i := 3) sc_Lorders_right.nd rfl (Or.inl rfl) (pe_call (ok_Lorder T O) (hr.mono (by decide)) (by rfl) O.m_Lorder O.F_Lorder.kp O.b_Lorder .nil pass0 (pa_cons (pv 0) (pa_cons (pv 2) pa_nil))))
  (pss_cons (ps_if (PW.pt (pw_or (pt_not (pt_val (pe_call (ok_Lis T O) (hr.mono (by decide)) (by rfl) O.m_Lis O.F_Lis.kp O.b_Lis .nil pass0 (pa_cons (pe_call (ok_is_order T O) (hr.mono (by decide)) (by rfl) O.m_is_order O.F_is_order.kp O.b_is_order .nil pass0 (pa_cons (pv 3) (pa_cons (pv 2) pa_nil))) (pa_cons pe_bl pa_nil))))) (pw_or1 (pt_not (pt_val (pe_call (ok_Lis T O) (hr.mono (by decide)) (by rfl) O.m_Lis O.F_Lis.kp O.b_Lis .nil pass0 (pa_cons (pe_call (ok_is_order T O) (hr.mono (by decide)) (by rfl) O.m_is_order O.F_is_order.kp O.b_is_order .nil pass0 (pa_cons (pe_callTy (r := Jv.rTupOf K) call_tuple_of (by rfl) O.z_tuple (by decide +kernel) (pa_cons (pv 3) pa_nil)) (pa_cons (pv 2) pa_nil))) (pa_cons pe_bl pa_nil)))))))) (pss_one (ps_ret pe_bl)) pss_nil)
  (pss_cons (ps_set (i := 4) sc_Lorders_right.nd rfl (Or.inl rfl) (pe_callTy (r := Jv.rListOf K) call_list_of (by rfl) O.z_list (by decide +kernel) (pa_cons (pv 3) pa_nil)))
  (pss_cons (ps_asg (pe_op op_sub (pe_call (ok_Ldraw T O) (hr.mono (by decide)) (by rfl) O.m_Ldraw O.F_Ldraw.kp O.b_Ldraw .nil pass0 (pa_cons (pv 0) (pa_cons (pe_op op_add (pv 2) pe_int) pa_nil))) pe_int) (pg_sub (pv 4) (pe_call (ok_Ldraw T O) (hr.mono (by decide)) (by rfl) O.m_Ldraw O.F_Ldraw.kp O.b_Ldraw .nil pass0 (pa_cons (pv 0) (pa_cons (pv 2) pa_nil))) set_list))
  (pss_cons (ps_if (pt_not (pt_val (pe_call (ok_Lis T O) (hr.mono (by decide)) (by rfl) O.m_Lis O.F_Lis.kp O.b_Lis .nil pass0 (pa_cons (pe_call (ok_is_order T O) (hr.mono (by decide)) (by rfl) O.m_is_order O.F_is_order.kp O.b_is_order .nil pass0 (pa_cons (pv 4) (pa_cons (pv 2) pa_nil))) (pa_cons (pe_cmpR (r := rEqD K) (op_eqD hr.units) (pe_callB (r := Jv.rSortIT K) Jv.cr_sortIT (by rfl) O.z_sorted (by decide +kernel) (pa_cons (pv 4) pa_nil)) (pe_listRg rfl (by rfl) O.z_list (prg_1 (by rfl) O.z_range (pv 2))) (nomark _)) pa_nil))))) (pss_one (ps_ret pe_bl)) pss_nil)
  (pss_cons (ps_if (PW.pt (pw_or (pt_not (pt_val (pe_call (ok_Lis T O) (hr.mono (by decide)) (by rfl) O.m_Lis O.F_Lis.kp O.b_Lis .nil pass0 (pa_cons (pe_call (ok_is_order T O) (hr.mono (by decide)) (by rfl) O.m_is_order O.F_is_order.kp O.b_is_order .nil pass0 (pa_cons (pe_op op_cat (pv 3) (pe_lst (pa_cons (pv 2) pa_nil))) (pa_cons (pv 2) pa_nil))) (pa_cons pe_bl pa_nil))))) (pw_or1 (pt_not (pt_val (pe_call (ok_Lis T O) (hr.mono (by decide)) (by rfl) O.m_Lis O.F_Lis.kp O.b_Lis .nil pass0 (pa_cons (pe_call (ok_is_order T O) (hr.mono (by decide)) (by rfl) O.m_is_order O.F_is_order.kp O.b_is_order .nil pass0 (pa_cons (pe_slice (r := rSlL K) sl_list (pv 3) (po_some pe_int) po_none) (pa_cons (pv 2) pa_nil))) (pa_cons pe_bl pa_nil)))))))) (pss_one (ps_ret pe_bl)) pss_nil)
  (pss_cons (ps_setLc (i := 5) (own := [("_law_kind", 7)]) (by rfl) sc_Lorders_right.nd rfl rfl (sw_true rfl rfl rfl (by decide +kernel)) (show PI _ _ _ (iList K _) from pi_list (pv 3)) (blkOk_by (own := [("_law_kind", 7)]) (N := ["_law_hand_here", "_law_turn", "_law_many", "_law_order_here", "_law_bent", "_law_truth", "_law_thing", "_law_kind"]) (sc := defScope s_Lorders_right) (by decide +kernel)) (fun _ _ _ _ _ => (pg_name (i := 7) sc_Lorders_right.nd rfl (Or.inl rfl))) (fun _ _ _ _ _ => pts_nil) (fun _ _ _ _ _ => (pe_ifExp (pt_cmpR op_eq (pv 7) pe_int (nomark _)) pe_bl (pv 7))))
  (pss_one (ps_if (PW.pt (pw_and (pt_cmpR op_gt (pv 2) pe_int (nomark _)) (pw_and1 (pt_not (pt_val (pe_call (ok_Lis T O) (hr.mono (by decide)) (by rfl) O.m_Lis O.F_Lis.kp O.b_Lis .nil pass0 (pa_cons (pe_call (ok_is_order T O) (hr.mono (by decide)) (by rfl) O.m_is_order O.F_is_order.kp O.b_is_order .nil pass0 (pa_cons (pv 5) (pa_cons (pv 2) pa_nil))) (pa_cons pe_bl pa_nil)))))))) (pss_one (ps_ret pe_bl)) pss_nil)))))))))))
  (pss_cons (ps_for PassesOwn.never rfl (show PI _ _ _ (iList K _) from pi_list (pe_lst (pa_cons pe_non (pa_cons pe_int (pa_cons pe_str (pa_cons (pe_disp (pps_cons pe_int pe_int pps_nil) (by rfl) (by rfl) (fun z => by cases z) (by decide)) (pa_cons (pe_tup (pa_cons pe_non pa_nil)) (pa_cons (pe_lst (pa_cons (pe_tup (pa_cons pe_int pa_nil)) pa_nil)) pa_nil)))))))) (pg_name (i := 6) sc_Lorders_right.nd rfl (Or.inl rfl)) (pss_one (ps_if (pt_not (pt_val (pe_call (ok_Lis T O) (hr.mono (by decide)) (by rfl) O.m_Lis O.F_Lis.kp O.b_Lis .nil pass0 (pa_cons (pe_call (ok_is_order T O) (hr.mono (by decide)) (by rfl) O.m_is_order O.F_is_order.kp O.b_is_order .nil pass0 (pa_cons (pv 6) (pa_cons pe_int pa_nil))) (pa_cons pe_bl pa_nil))))) (pss_one (ps_ret pe_bl)) pss_nil)))
  (pss_one (ps_ret pe_bl)))), ?_⟩
  walk_at "r"
  refine ⟨6, rfl, by decide, by decide, ?_⟩
  refine for_range (lo := 0) (n := (6 : Int).toNat) (fun i σ H1 => ∃ y1 y2 y3 y4 y5, σ = [some (.ref h), y1, y2, y3, y4, y5, none, none] ∧ Jv.Kp h H H1 ∧ Jv.Hand H1 h l) ⟨_, _, _, _, _, rfl, Jv.Kp.refl, hh⟩ ?_ ?_
  · rintro i σ H1 hi ⟨y1, y2, y3, y4, y5, rfl, k1, h1⟩
    walk_at "r"
    refine ⟨h, l, _, rfl, h1, ⟨by decide, Jv.log_small (by decide) (by decide)⟩, fun kk H2 kk0 kk1 k2 h2 => ?_⟩
    have mb : 1 ≤ 1 + kk ∧ 1 + kk ≤ 6 := by omega
    have kp2 := k1.trans k2
    walk_at "r"
    generalize (1 + kk : Int) = m at mb ⊢
    refine ⟨h, l, m, rfl, h2, ⟨mb.1, by omega⟩, fun r ns H3 pm hr0 hr3 k3 h3 => ?_⟩
    have ln := len_perm pm
    have kp3 := kp2.trans k3
    have nrh : r ≠ h := by
      obtain ⟨ho, eho⟩ := h2.at
      exact (ne_of_none eho hr0).symm
    have sq3 : Jv.Sq H3 (.ref r) (ns.map V.int) := ⟨r, rfl, .inl hr3⟩
    walk_at "r"
    refine ⟨_, _, rfl, Jv.thS_ints (.inl hr3) (by omega), ⟨by omega, by omega⟩, fun H4 s4 => ?_⟩
    rw [Jv.orderV_of sq3.of, decide_eq_true (order_perm pm)]
    walk_at "r"
    refine ⟨_, _, rfl, ?_⟩
    walk_at "r"
    have hr4 := s4 _ _ hr3
    refine ⟨r, _, rfl, .inl ⟨Jv.sqL_at hr4, fun b hb => ?_⟩⟩
    have sqb : Jv.Sq (upd H4 b (.tup (ns.map V.int))) (.ref b) (ns.map V.int) := ⟨b, rfl, .inr upd_same⟩
    walk_at "r"
    refine ⟨_, _, rfl, Jv.thS_ints (.inr upd_same) (by omega), ⟨by omega, by omega⟩, fun H5 s5 => ?_⟩
    rw [Jv.orderV_of sqb.of, decide_eq_true (order_perm pm)]
    walk_at "r"
    refine ⟨_, _, rfl, ?_⟩
    walk_at "r"
    have s35 := (s4.trans (Jv.same_new (u := .tup (ns.map V.int)) hb)).trans s5
    have hr5 := s35 _ _ hr3
    have h5 := h3.same s35
    refine ⟨r, _, rfl, .inl (Jv.sqL_at hr5), fun e he => ?_⟩
    walk_at "r"
    have h6 := h5.same (Jv.same_new (u := .lst (ns.map V.int)) he)
    have neh : e ≠ h := by
      obtain ⟨ho, eho⟩ := h5.at
      exact (ne_of_none eho he).symm
    have nel : e ≠ l := by
      obtain ⟨ns, a1, a2, a3, hA⟩ := h5
      exact (ne_of_none hA.hl he).symm
    have ner : e ≠ r := (ne_of_none hr5 he).symm
    have kp5 := kp3.trans (Jv.Kp.same s35)
    have he0 := Kp_free kp5 he neh
    refine ⟨h, l, _, rfl, h6, ⟨by omega, Jv.log_small (by omega) (by omega)⟩, fun z H6 z0 z1 k6 h6 => ?_⟩
    walk_at "r"
    refine ⟨h, l, _, rfl, h6, ⟨by omega, Jv.log_small (by omega) (by omega)⟩, fun j H7 j0 j1 k7 h7 => ?_⟩
    have he7 := k7 _ _ neh (k6 _ _ neh (upd_same (o := .lst (ns.map V.int))))
    have hr7 := k7 _ _ nrh (k6 _ _ nrh (Jv.kp hr5 he))
    walk_at "r"
    refine Jv.r_setL he7 (j := j.toNat) (by rw [List.length_map, ← Int.toNat_of_nonneg j0]; exact Jv.ixN_of (by omega)) ?_
    rw [← List.map_set]
    obtain ⟨bs, ebs⟩ : ∃ bs, bs = ns.set j.toNat (z - 1) := ⟨_, rfl⟩
    rw [← ebs]
    have lbs : bs.length = ns.length := by rw [ebs, List.length_set]
    have h8 : Jv.Hand (upd H7 e (.lst (bs.map V.int))) h l := Hand_upd (xs := []) h7 neh nel
    have hr8 : upd H7 e (.lst (bs.map V.int)) r = some (.lst (ns.map V.int)) := by rw [upd_ne ner.symm]; exact hr7
    have he8 : upd H7 e (.lst (bs.map V.int)) e = some (.lst (bs.map V.int)) := upd_same
    have kp8 : Jv.Kp h H (upd H7 e (.lst (bs.map V.int))) := by
      intro c o nc hc
      have ce := ne_of_none hc he0
      rw [upd_ne ce]
      exact k7 _ _ nc (k6 _ _ nc (Jv.kp (kp5 c o nc hc) he))
    generalize upd H7 e (.lst (bs.map V.int)) = H8 at h8 hr8 he8 kp8 ⊢
    have sqe : Jv.Sq H8 (.ref e) (bs.map V.int) := ⟨e, rfl, .inl he8⟩
    walk_at "r"
    refine ⟨_, _, rfl, Jv.thS_ints (.inl he8) (by omega), ⟨by omega, by omega⟩, fun H9 s9 => ?_⟩
    rw [Jv.orderV_of sqe.of]
    walk_at "r"
    refine ⟨e, bs, rfl, .inl (Jv.sqL_at (s9 _ _ he8)), fun ms r2 pm2 so hr2 => ?_⟩
    walk_at "r"
    refine ⟨_, rfl, m, rfl, RgOk.of_le (by omega) (by omega) (by omega) (by omega), fun p hp => ?_⟩
    walk_at "r"
    rw [Jv.rgV0]
    refine ⟨_, _, Jv.dpL (by walk_at "sq"), Jv.dpL (by walk_at "sq"), Jv.shapedL _, Jv.shapedL _, ?_⟩
    rw [Jv.eqvL, show decide (Jv.orderP m bs) = decide (ms = (List.range m.toNat).map fun (i : Nat) => (i : Int)) from decide_eq_decide.mpr (order_iff pm2 so)]
    walk_at "r"
    refine ⟨_, _, rfl, ?_⟩
    walk_at "r"
    have s8 := (s9.trans (Jv.same_new (u := .lst (ms.map V.int)) hr2)).trans (Jv.same_new (u := .lst ((Jv.rgI m.toNat).map V.int)) hp)
    have hrB := s8 _ _ hr8
    walk_at "r"
    intro q hq
    refine ⟨r, q, ns.map V.int, [.int m], rfl, rfl, Jv.kp hrB hq, upd_same, Jv.small_of (by simp; omega), fun t ht => ?_⟩
    have e1 : ns.map V.int ++ [.int m] = (ns ++ [m]).map V.int := by rw [List.map_append]; rfl
    rw [e1]
    walk_at "r"
    refine ⟨_, _, rfl, Jv.thS_ints (.inl upd_same) (by simp; omega), ⟨by omega, by omega⟩, fun HA sA => ?_⟩
    rw [Jv.orderV_of (Jv.Sq.of ⟨t, rfl, .inl upd_same⟩), decide_eq_false fun o => by have := o.1 m (by simp); omega]
    walk_at "r"
    refine ⟨_, _, rfl, ?_⟩
    have s9 := ((s8.trans (Jv.same_new (u := .lst [.int m]) hq)).trans (Jv.same_new (u := .lst ((ns ++ [m]).map V.int)) ht)).trans sA
    have hrC := s9 _ _ hr8
    walk_at "r"
    refine Jv.r_sl ?_
    walk_at "r"
    refine Jv.r_partC ?_
    refine Jv.r_noPart ?_
    refine ⟨r, _, rfl, Jv.sqL_at hrC, fun u hu => ?_⟩
    rw [cut1]
    walk_at "r"
    refine ⟨_, _, rfl, Jv.thS_ints (.inl upd_same) (by simp; omega), ⟨by omega, by omega⟩, fun HB sB => ?_⟩
    rw [Jv.orderV_of (Jv.Sq.of ⟨u, rfl, .inl upd_same⟩), decide_eq_false fun o => by
      have := len_perm o.2
      rw [List.length_drop] at this; omega]
    walk_at "r"
    refine ⟨_, _, rfl, ?_⟩
    have s10 := (s9.trans (Jv.same_new (u := .lst ((ns.drop 1).map V.int)) hu)).trans sB
    have hrD := s10 _ _ hr8
    walk_at "r"
    refine Jv.lcL (j := 7) (i := 3) (a := r) rfl (Jv.sqL_at hrD) truthV (by rw [List.length_map]; omega) (fun v HC mv sC PP hP => ?_) (fun D HD sD hD eD => ?_)
    · obtain ⟨z, hz, rfl⟩ := List.mem_map.mp mv
      walk_at "r"
      refine Jv.r_decI (fun ez => ?_) (fun ez => ?_)
      · walk_at "r"
        have e2 : truthV (.int z) = .bl true := by rw [ez]; rfl
        rw [e2] at hP
        exact hP _ (Same.refl _)
      · walk_at "r"
        have e2 : truthV (.int z) = .int z := if_neg fun e => ez (V.int.inj e)
        rw [e2] at hP
        exact hP _ (Same.refl _)
    · walk_at "r"
      have s11 := s10.trans sD
      have hh11 := h8.same s11
      have kp11 := kp8.trans (Jv.Kp.same s11)
      refine Jv.r_dec (fun hm => ?_) (fun hm => ?_)
      · walk_at "r"
        have sqD : Jv.Sq HD (.ref D) ((ns.map V.int).map truthV) := ⟨D, rfl, .inl eD⟩
        have tsD : Jv.ThS HD (.ref D) := by
          refine ⟨sqD.th, fun ys q => ?_⟩
          have e := q.of; rw [sqD.of] at e; cases e
          refine ⟨by simp; omega, fun v hv => ?_⟩
          obtain ⟨x, hx, rfl⟩ := List.mem_map.mp hv
          obtain ⟨z, _, rfl⟩ := List.mem_map.mp hx
          unfold truthV
          split <;> trivial
        refine ⟨_, _, rfl, tsD, ⟨by omega, by omega⟩, fun HE sE => ?_⟩
        have e0 : Jv.orderV HD (.ref D) m = false := by
          unfold Jv.orderV
          rw [sqD.of]
          dsimp only
          rw [iv_none (b := true)]
          have m1 : (1 : Int) ∈ ns := pm.symm.mem_iff.mp (by unfold Jv.rgI; rw [List.mem_map]; exact ⟨1, by rw [List.mem_range]; omega, rfl⟩)
          exact List.mem_map.mpr ⟨.int 1, List.mem_map.mpr ⟨1, m1, rfl⟩, rfl⟩
        rw [e0]
        walk_at "r"
        refine ⟨_, _, rfl, ?_⟩
        walk_at "r"
        exact ⟨_, _, _, _, _, rfl, kp11.trans (Jv.Kp.same sE), hh11.same sE⟩
      · walk_at "r"
        exact ⟨_, _, _, _, _, rfl, kp11, hh11⟩
  · rintro σ H1 ⟨y1, y2, y3, y4, y5, rfl, k1, h1⟩
    walk_at "r"
    intro a ha
    walk_at "r"
    intro b hb
    walk_at "r"
    intro c hc
    walk_at "r"
    intro d hd
    walk_at "r"
    intro f hf
    refine ⟨f, rfl, ⟨_, Jv.sqL_at upd_same⟩, ?_⟩
    have sD := ((((Jv.same_new (u := .dK [(.inl 0, .int 0)]) ha).trans (Jv.same_new (u := .tup [.non]) hb)).trans (Jv.same_new (u := .tup [.int 0]) hc)).trans (Jv.same_new (u := .lst [.ref c]) hd)).trans (Jv.same_new (u := .lst [.non, .int 3, .str "012", .ref a, .ref b, .ref d]) hf)
    generalize eD : upd (upd (upd (upd (upd H1 a (.dK [(.inl 0, .int 0)])) b (.tup [.non])) c (.tup [.int 0])) d (.lst [.ref c])) f (.lst [.non, .int 3, .str "012", .ref a, .ref b, .ref d]) = HD at sD
    have xs : HD f = some (.lst [.non, .int 3, .str "012", .ref a, .ref b, .ref d]) := by rw [← eD, upd_same]
    have th : ∀ v ∈ ([.non, .int 3, .str "012", .ref a, .ref b, .ref d] : List V), Jv.BadTh HD v := by
      have ea : HD a = some (.dK [(.inl 0, .int 0)]) := by rw [← eD]; walk_at "hp"
      have eb : HD b = some (.tup [.non]) := by rw [← eD]; walk_at "hp"
      have ec : HD c = some (.tup [.int 0]) := by rw [← eD]; walk_at "hp"
      have ed : HD d = some (.lst [.ref c]) := by rw [← eD]; walk_at "hp"
      intro v hv
      simp only [List.mem_cons, List.mem_nil_iff, or_false] at hv
      rcases hv with rfl | rfl | rfl | rfl | rfl | rfl
      · exact Jv.bad_sc trivial rfl
      · exact Jv.bad_sc trivial rfl
      · exact Jv.bad_sc trivial rfl
      · exact Jv.bad_dK ea
      · exact Jv.bad_sq (.inr eb) (by decide) (fun v hv => by rw [List.mem_singleton.mp hv]; trivial) rfl
      · exact Jv.bad_sq (.inl ed) (Nat.le_of_ble_eq_true rfl) (fun v hv => by rw [List.mem_singleton.mp hv]; exact .inr (.inl ⟨_, ec⟩)) rfl
    refine for_list (K := K) (a := f) (xs := [.non, .int 3, .str "012", .ref a, .ref b, .ref d]) (fun i σ H3 => ∃ y6, σ = [some (.ref h), y1, y2, y3, y4, y5, y6, none] ∧ Same HD H3) ⟨_, rfl, fun _ _ e => e⟩ (fun i σ H2 _ ⟨_, _, s⟩ => Jv.sqL_at (s _ _ xs)) ?_ ?_
    · rintro i x σ H3 hx ⟨y6, rfl, s3⟩
      have tx := (th x (List.mem_of_getElem? hx)).same s3
      walk_at "r"
      refine ⟨_, _, rfl, tx.1, ⟨by decide, by decide⟩, fun H4 s4 => ?_⟩
      rw [tx.order]
      walk_at "r"
      refine ⟨_, _, rfl, ?_⟩
      walk_at "r"
      exact ⟨_, rfl, s3.trans s4⟩
    · rintro σ H3 ⟨y6, rfl, s3⟩
      have s13 := sD.trans s3
      walk_at "r"
      exact k _ (k1.trans (Jv.Kp.same s13)) (h1.same s13)
end
end K01

namespace K01
open PySem PySem.Spec PyProof.Rows L2
mutual
theorem dp_same {K : PySem.W.Frag} {H H' : Hp} (s : Same H H') : ∀ {v : V} {d : PyData}, Dp K H v d → Dp K H' v d
  | _, _, .non => .non
  | _, _, .bl b => .bl b
  | _, _, .int i => .int i
  | _, _, .str x => .str x
  | _, _, .lst h q => .lst (s.seq h) (dpAll_same s q)
  | _, _, .tup h q => .tup (Jv.Same.sqT s h) (dpAll_same s q)
theorem dpAll_same {K : PySem.W.Frag} {H H' : Hp} (s : Same H H') : ∀ {vs : List V} {ds : List PyData}, DpAll K H vs ds → DpAll K H' vs ds
  | _, _, .nil => .nil
  | _, _, .cons a b => .cons (dp_same s a) (dpAll_same s b)
end
theorem dpAll_snoc {K : PySem.W.Frag} {H : Hp} {v : V} {d : PyData} (h : Dp K H v d) : ∀ {vs : List V} {ds : List PyData}, DpAll K H vs ds → DpAll K H (vs ++ [v]) (ds ++ [d])
  | _, _, .nil => .cons h .nil
  | _, _, .cons a b => .cons a (dpAll_snoc h b)
def prD (pr : Int × Int) : PyData := .tuple [.int pr.1, .int pr.2]
theorem dp_prs {K : PySem.W.Frag} {H : Hp} : ∀ {refs : List V} {prs : List (Int × Int)}, Jv.Tups H refs prs → DpAll K H refs (prs.map prD)
  | _, _, .nil => .nil
  | _, _, .cons ⟨t, e, h⟩ r => by
    subst e
    exact .cons (.tup (Jv.sqT_at h) (.cons (.int _) (.cons (.int _) .nil))) (dp_prs r)
theorem can_prs : ∀ prs : List (Int × Int), PyData.canLayAll0 (prs.map prD) = true
  | [] => by simp [PyData.canLayAll0]
  | a :: r => by simp [PyData.canLayAll0, prD, PyData.canLay0, can_prs r]
theorem dep_prs : ∀ prs : List (Int × Int), PyData.depthAll (prs.map prD) ≤ 1
  | [] => by simp [PyData.depthAll]
  | a :: r => by
    have := dep_prs r
    simp [PyData.depthAll, prD, PyData.depth] at this ⊢
    omega
theorem shaped_prs (prs : List (Int × Int)) : SeqAt.shaped (.tuple (prs.map prD)) = true := by
  have := dep_prs prs
  simp [SeqAt.shaped, PyData.canLay0, PyData.depth, can_prs]
  omega
theorem eqv_prs : ∀ prs : List (Int × Int), PyData.eqvAll (prs.map prD) (prs.map prD) = true
  | [] => by simp [PyData.eqvAll]
  | a :: r => by simp [PyData.eqvAll, prD, PyData.eqv, eqv_prs r]
def badD : PyData := .list [.str "bad"]
theorem dp_b {K : PySem.W.Frag} {H : Hp} {a : Addr} (h : H a = some (.lst [.str "bad"])) : Dp K H (.ref a) badD := .lst (Jv.sqL_at h) (.cons (.str _) .nil)
theorem shaped_b : SeqAt.shaped badD = true := by
  simp [badD, SeqAt.shaped, PyData.canLay0, PyData.depth, PyData.canLayAll0, PyData.depthAll]; decide +kernel
theorem eqv_b : PyData.eqv badD badD = true := by simp [badD, PyData.eqv, PyData.eqvAll]
def sixD : List PyData := [.int 0, .int 1, badD, badD, badD, badD]
theorem shaped_six : SeqAt.shaped (.list sixD) = true := by
  have e : PyData.strOk (Str.ofString "bad") = true := by decide +kernel
  simp [sixD, badD, SeqAt.shaped, PyData.canLay0, PyData.depth, PyData.canLayAll0, PyData.depthAll, e]
theorem eqv_six : PyData.eqv (.list sixD) (.list sixD) = true := by simp [sixD, badD, PyData.eqv, PyData.eqvAll]
theorem sidesV_of {H : Hp} {x : V} {p q : Int} (h : Jv.Sq H x [.int p, .int q]) : sidesV H x = decide ((1 ≤ p ∧ p ≤ 6) ∧ (1 ≤ q ∧ q ≤ 6) ∧ p * q ≤ 12) := by
  unfold sidesV; rw [h.of]
theorem coupleV_of {H : Hp} {x : V} {p q a b : Int} (h : Jv.Sq H x [.int a, .int b]) : coupleV H x p q = decide ((0 ≤ a ∧ a < p) ∧ (0 ≤ b ∧ b < q)) := by
  unfold coupleV; rw [h.of]
  show ((decide (0 ≤ a) && decide (a ≤ p - 1)) && (decide (0 ≤ b) && decide (b ≤ q - 1))) = _
  rw [← Bool.decide_and, ← Bool.decide_and, ← Bool.decide_and]
  exact decide_eq_decide.mpr ⟨fun h => by omega, fun h => by omega⟩
/-- no sides, no couple -/
def NoS (H : Hp) (x : V) : Prop := Jv.ThS H x ∧ sidesV H x = false
theorem NoS.same {H H' : Hp} {x : V} (h : NoS H x) (s : Same H H') : NoS H' x := ⟨h.1.same s, by
  have e := h.2
  unfold sidesV at e ⊢
  rw [Jv.sqOf_same h.1.1 s]; exact e⟩
def NoC (H : Hp) (x : V) (p q : Int) : Prop := Jv.ThS H x ∧ coupleV H x p q = false
theorem NoC.same {H H' : Hp} {x : V} {p q : Int} (h : NoC H x p q) (s : Same H H') : NoC H' x p q := ⟨h.1.same s, by
  have e := h.2
  unfold coupleV at e ⊢
  rw [Jv.sqOf_same h.1.1 s]; exact e⟩
section
variable {H : Hp}
theorem thS_sc {x : V} (h : Jv.Th H x) (n : Jv.sqOf H x = none) : Jv.ThS H x := ⟨h, fun xs q => by rw [q.of] at n; cases n⟩
theorem thS_sq {a : Addr} {xs : List V} (h : H a = some (.lst xs) ∨ H a = some (.tup xs)) (few : xs.length ≤ 60) (th : ∀ v ∈ xs, Jv.Th H v) : Jv.ThS H (.ref a) := by
  have sq : Jv.Sq H (.ref a) xs := ⟨a, rfl, h⟩
  refine ⟨sq.th, fun ys q => ?_⟩
  have e := q.of; rw [sq.of] at e; cases e; exact ⟨few, th⟩
theorem noS_sc {x : V} (h : Jv.Th H x) (n : Jv.sqOf H x = none) : NoS H x := ⟨thS_sc h n, by unfold sidesV; rw [n]⟩
theorem noC_sc {x : V} {p q : Int} (h : Jv.Th H x) (n : Jv.sqOf H x = none) : NoC H x p q := ⟨thS_sc h n, by unfold coupleV; rw [n]⟩
theorem noS_dK {a : Addr} {kvs : List (Key × V)} (h : H a = some (.dK kvs)) : NoS H (.ref a) := noS_sc (.inr (.inr ⟨_, h⟩)) (by simp [Jv.sqOf, h])
theorem noC_dK {a : Addr} {kvs : List (Key × V)} {p q : Int} (h : H a = some (.dK kvs)) : NoC H (.ref a) p q := noC_sc (.inr (.inr ⟨_, h⟩)) (by simp [Jv.sqOf, h])
theorem noS_tup {a : Addr} {xs : List V} (h : H a = some (.tup xs)) (few : xs.length ≤ 60) (th : ∀ v ∈ xs, Jv.Th H v) (n : ∀ p q : Int, xs ≠ [.int p, .int q]) : NoS H (.ref a) :=
  ⟨thS_sq (.inr h) few th, by
    unfold sidesV
    rw [Jv.Sq.of ⟨a, rfl, .inr h⟩]
    split
    · rename_i e; cases e; exact absurd rfl (n _ _)
    · rfl⟩
theorem noC_tup {a : Addr} {xs : List V} {p q : Int} (h : H a = some (.tup xs)) (few : xs.length ≤ 60) (th : ∀ v ∈ xs, Jv.Th H v) (n : ∀ x y, xs = [x, y] → (Jv.isI x && Jv.isI y) = false) : NoC H (.ref a) p q :=
  ⟨thS_sq (.inr h) few th, by
    unfold coupleV
    rw [Jv.Sq.of ⟨a, rfl, .inr h⟩]
    split
    · rename_i x y e
      cases e
      have := n x y rfl
      cases ex : Jv.isI x with
      | false => rw [Jv.wholeV_not ex]; rfl
      | true =>
        rw [ex, Bool.true_and] at this
        rw [Jv.wholeV_not this, Bool.and_false]
    · rfl⟩
end
end K01

namespace K01
open PySem PySem.Spec PyProof.Rows L2
def sp_law (K : PySem.W.Frag) : Sp := fun vs H Q _ => ∃ (a : Addr) (ns : List Int), vs = [.ref a] ∧ SqL K H a (ns.map V.int) ∧ ns.length ≤ 63 ∧ ∀ H', Q (.bl true) H'
def Good (D : Addr) (H : Hp) (v : V) (d : PyData) : Prop := (∃ z, v = .int z ∧ d = .int z) ∨ ∃ a, v = .ref a ∧ a ≠ D ∧ H a = some (.lst [.str "bad"]) ∧ d = badD
theorem Good.mono {D : Addr} {H H' : Hp} {v : V} {d : PyData} (g : Good D H v d) (k : ∀ b o, b ≠ D → H b = some o → H' b = some o) : Good D H' v d := by
  rcases g with g | ⟨a, e, n, h, e2⟩
  · exact .inl g
  · exact .inr ⟨a, e, n, k _ _ n h, e2⟩
theorem dp_good {K : PySem.W.Frag} {D : Addr} {H : Hp} : ∀ {vs : List V} {ds : List PyData}, Paired (Good D H) vs ds → DpAll K H vs ds
  | _, _, .nil => .nil
  | _, _, .cons (.inl ⟨z, e1, e2⟩) r => by subst e1 e2; exact .cons (.int z) (dp_good r)
  | _, _, .cons (.inr ⟨a, e1, n, h, e2⟩) r => by subst e1 e2; exact .cons (dp_b h) (dp_good r)
theorem six_at {g : Int} (hg : 2 ≤ g) : ∀ {i : Nat} {x : V} (_ : ([.int 0, .int 1, .int 2, .int (-1), .int g, .int (-g)] : List V)[i]? = some x), ∃ z, x = .int z ∧ ((Jv.wholeV x (.int 0) (.int 1) = true ∧ sixD[i]? = some (.int z)) ∨ (Jv.wholeV x (.int 0) (.int 1) = false ∧ sixD[i]? = some badD))
  | 0, _, h => by cases h; exact ⟨0, rfl, .inl ⟨rfl, rfl⟩⟩
  | 1, _, h => by cases h; exact ⟨1, rfl, .inl ⟨rfl, rfl⟩⟩
  | 2, _, h => by cases h; exact ⟨2, rfl, .inr ⟨rfl, rfl⟩⟩
  | 3, _, h => by cases h; exact ⟨-1, rfl, .inr ⟨rfl, rfl⟩⟩
  | 4, _, h => by
    cases h
    refine ⟨g, rfl, .inr ⟨?_, rfl⟩⟩
    show (decide (0 ≤ g) && decide (g ≤ 1)) = false
    rw [decide_eq_false (p := g ≤ 1) (by omega), Bool.and_false]
  | 5, _, h => by
    cases h
    refine ⟨-g, rfl, .inr ⟨?_, rfl⟩⟩
    show (decide (0 ≤ -g) && decide (-g ≤ 1)) = false
    rw [decide_eq_false (p := 0 ≤ -g) (by omega), Bool.false_and]
  | i + 6, _, h => by simp at h
section
variable {P : Program} {w : World} {K : PySem.W.Frag} {mg : Str → Option Value} {base : Heap}
theorem ok_law (T : Tx) (O : Ok K mg T) : FnOk P w K mg base CX0 7 T.f_law T.d_law ["_law_script"] (sp_law K) := by
  refine O.F_law.ok sc_law (fun vs H Q E h => by obtain ⟨_, _, rfl, _⟩ := h; rfl) (fun cdv A outer s H vs Q E hr h => ?_)
  obtain ⟨a, ns, rfl, hs, few, k⟩ := h
  refine ⟨_, (pss_cons (ps_set (i := 1) sc_law.nd rfl (Or.inl rfl) (pe_call (ok_Lhand T O) (hr.mono (by decide)) (by rfl) O.m_Lhand O.F_Lhand.kp O.b_Lhand .nil pass0 (pa_cons (pv 0) pa_nil)))
  (pss_cons (ps_if (pt_cmpR (r := rNeD K) (op_neD hr.units) (pe_tup (pa_cons (pe_glob (v := .int (0)) (by rfl) O.c_EAST ⟨_, rfl⟩) (pa_cons (pe_glob (v := .int (1)) (by rfl) O.c_WEST ⟨_, rfl⟩) (pa_cons (pe_glob (v := .int (0)) (by rfl) O.c_STOP ⟨_, rfl⟩) (pa_cons (pe_glob (v := .int (6)) (by rfl) O.c_LADDER_MOST ⟨_, rfl⟩) (pa_cons (pe_glob (v := .int (6)) (by rfl) O.c_KINDS_MOST ⟨_, rfl⟩) (pa_cons (pe_glob (v := .int (12)) (by rfl) O.c_COUPLES_MOST ⟨_, rfl⟩) pa_nil))))))) (pe_tup (pa_cons pe_int (pa_cons pe_int (pa_cons pe_int (pa_cons pe_int (pa_cons pe_int (pa_cons pe_int pa_nil))))))) (nomark _)) (pss_one (ps_ret pe_bl)) pss_nil)
  (pss_cons (ps_for PassesOwn.never rfl (pi_range2 (by rfl) O.z_range (pa_cons (pe_un un_neg pe_int) (pa_cons pe_int pa_nil))) (pg_name (i := 2) sc_law.nd rfl (Or.inl rfl)) (pss_one (ps_for PassesOwn.never rfl (pi_range2 (by rfl) O.z_range (pa_cons (pe_un un_neg pe_int) (pa_cons pe_int pa_nil))) (pg_name (i := 3) sc_law.nd rfl (Or.inl rfl)) (C8.pss_cut (ps_set (i := 4) sc_law.nd rfl (Or.inl rfl) (pe_and (pe_chain op_le op_le pe_int (pv 2) pe_int) (pe_and (pe_chain op_le op_le pe_int (pv 3) pe_int) (pe_one (pe_cmpR op_le (pe_op op_mul (pv 2) (pv 3)) pe_int (nomark _))))))
  (pss_one (ps_if (PW.pt (pw_or (pt_not (pt_val (pe_call (ok_Lis T O) (hr.mono (by decide)) (by rfl) O.m_Lis O.F_Lis.kp O.b_Lis .nil pass0 (pa_cons (pe_call (ok_are_sides T O) (hr.mono (by decide)) (by rfl) O.m_are_sides O.F_are_sides.kp O.b_are_sides .nil pass0 (pa_cons (pe_tup (pa_cons (pv 2) (pa_cons (pv 3) pa_nil))) pa_nil)) (pa_cons (pv 4) pa_nil))))) (pw_or1 (pt_not (pt_val (pe_call (ok_Lis T O) (hr.mono (by decide)) (by rfl) O.m_Lis O.F_Lis.kp O.b_Lis .nil pass0 (pa_cons (pe_call (ok_are_sides T O) (hr.mono (by decide)) (by rfl) O.m_are_sides O.F_are_sides.kp O.b_are_sides .nil pass0 (pa_cons (pe_lst (pa_cons (pv 2) (pa_cons (pv 3) pa_nil))) pa_nil)) (pa_cons (pv 4) pa_nil)))))))) (pss_one (ps_ret pe_bl)) pss_nil))))))
  (pss_cons (ps_for PassesOwn.never rfl (show PI _ _ _ (iList K _) from pi_list (pe_lst (pa_cons pe_non (pa_cons pe_int (pa_cons pe_str (pa_cons (pe_tup (pa_cons pe_int pa_nil)) (pa_cons (pe_tup (pa_cons pe_int (pa_cons pe_int (pa_cons pe_int pa_nil)))) (pa_cons (pe_tup (pa_cons pe_bl (pa_cons pe_int pa_nil))) (pa_cons (pe_tup (pa_cons pe_int (pa_cons pe_non pa_nil))) (pa_cons (pe_disp (pps_cons pe_int pe_int pps_nil) (by rfl) (by rfl) (fun z => by cases z) (by decide)) (pa_cons (pe_tup pa_nil) pa_nil))))))))))) (pg_name (i := 5) sc_law.nd rfl (Or.inl rfl)) (pss_one (ps_if (pt_not (pt_val (pe_call (ok_Lis T O) (hr.mono (by decide)) (by rfl) O.m_Lis O.F_Lis.kp O.b_Lis .nil pass0 (pa_cons (pe_call (ok_are_sides T O) (hr.mono (by decide)) (by rfl) O.m_are_sides O.F_are_sides.kp O.b_are_sides .nil pass0 (pa_cons (pv 5) pa_nil)) (pa_cons pe_bl pa_nil))))) (pss_one (ps_ret pe_bl)) pss_nil)))
  (pss_cons (ps_if (PW.pt (pw_or (pt_not (pt_val (pe_call (ok_Lnumbers_right T O) (hr.mono (by decide)) (by rfl) O.m_Lnumbers_right O.F_Lnumbers_right.kp O.b_Lnumbers_right .nil pass0 (pa_cons (pv 1) pa_nil)))) (pw_or (pt_not (pt_val (pe_call (ok_Llots_right T O) (hr.mono (by decide)) (by rfl) O.m_Llots_right O.F_Llots_right.kp O.b_Llots_right .nil pass0 (pa_cons (pv 1) pa_nil)))) (pw_or1 (pt_not (pt_val (pe_call (ok_Lorders_right T O) (hr.mono (by decide)) (by rfl) O.m_Lorders_right O.F_Lorders_right.kp O.b_Lorders_right .nil pass0 (pa_cons (pv 1) pa_nil)))))))) (pss_one (ps_ret pe_bl)) pss_nil)
  (pss_cons (ps_set (i := 6) sc_law.nd rfl (Or.inl rfl) (pe_call (ok_Lwide_sides T O) (hr.mono (by decide)) (by rfl) O.m_Lwide_sides O.F_Lwide_sides.kp O.b_Lwide_sides .nil pass0 (pa_cons (pv 1) pa_nil)))
  (pss_cons (ps_if (PW.pt (pw_or (pt_cmpR (r := rNeD K) (op_neD hr.units) (pe_call (ok_couples_of T O) (hr.mono (by decide)) (by rfl) O.m_couples_of O.F_couples_of.kp O.b_couples_of .nil pass0 (pa_cons (pv 6) pa_nil)) (pe_callTy (r := Jv.rTupOf K) call_tuple_of (by rfl) O.z_tuple (by decide +kernel) (pa_cons (pe_call (ok_Lcouples T O) (hr.mono (by decide)) (by rfl) O.m_Lcouples O.F_Lcouples.kp O.b_Lcouples .nil pass0 (pa_cons (pv 6) pa_nil)) pa_nil)) (nomark _)) (pw_or1 (pt_not (pt_val (pe_callB (r := rIsi K) call_isi (by rfl) O.z_isinstance (by decide +kernel) (pa_cons (pe_call (ok_couples_of T O) (hr.mono (by decide)) (by rfl) O.m_couples_of O.F_couples_of.kp O.b_couples_of .nil pass0 (pa_cons (pv 6) pa_nil)) (pa_cons (pe_bltn (v := .ty "tuple") (by rfl) O.z_tuple (by decide +kernel) rfl) pa_nil)))))))) (pss_one (ps_ret pe_bl)) pss_nil)
  (pss_cons (ps_for PassesOwn.never rfl (pi_range2 (by rfl) O.z_range (pa_cons (pe_un un_neg pe_int) (pa_cons (pe_op op_add (pe_ix (r := rIxT K) ix_tup (pv 6) pe_int (fun _ _ => rfl)) pe_int) pa_nil))) (pg_name (i := 7) sc_law.nd rfl (Or.inl rfl)) (pss_one (ps_for PassesOwn.never rfl (pi_range2 (by rfl) O.z_range (pa_cons (pe_un un_neg pe_int) (pa_cons (pe_op op_add (pe_ix (r := rIxT K) ix_tup (pv 6) pe_int (fun _ _ => rfl)) pe_int) pa_nil))) (pg_name (i := 8) sc_law.nd rfl (Or.inl rfl)) (C8.pss_cut (ps_set (i := 4) sc_law.nd rfl (Or.inl rfl) (pe_and (pe_chain op_le op_lt pe_int (pv 7) (pe_ix (r := rIxT K) ix_tup (pv 6) pe_int (fun _ _ => rfl))) (pe_one (pe_chain op_le op_lt pe_int (pv 8) (pe_ix (r := rIxT K) ix_tup (pv 6) pe_int (fun _ _ => rfl))))))
  (pss_cons (ps_set (i := 9) sc_law.nd rfl (Or.inl rfl) (pe_call (ok_Lcouple_told T O) (hr.mono (by decide)) (by rfl) O.m_Lcouple_told O.F_Lcouple_told.kp O.b_Lcouple_told .nil pass0 (pa_cons (pv 6) (pa_cons (pe_lst (pa_cons (pv 7) (pa_cons (pv 8) pa_nil))) pa_nil))))
  (pss_one (ps_if (PW.pt (pw_or (pt_cmpR (r := rNeD K) (op_neD hr.units) (pv 9) (pe_ifExp (pt_val (pv 4)) (pe_tup (pa_cons (pv 7) (pa_cons (pv 8) pa_nil))) (pe_lst (pa_cons pe_str pa_nil))) (nomark _)) (pw_or1 (pt_cmpR (r := rNeD K) (op_neD hr.units) (pe_call (ok_Lcouple_told T O) (hr.mono (by decide)) (by rfl) O.m_Lcouple_told O.F_Lcouple_told.kp O.b_Lcouple_told .nil pass0 (pa_cons (pv 6) (pa_cons (pe_tup (pa_cons (pv 7) (pa_cons (pv 8) pa_nil))) pa_nil))) (pv 9) (nomark _))))) (pss_one (ps_ret pe_bl)) pss_nil)))))))
  (pss_cons (ps_for PassesOwn.never rfl (show PI _ _ _ (iList K _) from pi_list (pe_lst (pa_cons pe_non (pa_cons pe_int (pa_cons pe_str (pa_cons (pe_tup (pa_cons pe_int pa_nil)) (pa_cons (pe_tup (pa_cons pe_int (pa_cons pe_int (pa_cons pe_int pa_nil)))) (pa_cons (pe_tup (pa_cons pe_bl (pa_cons pe_int pa_nil))) (pa_cons (pe_tup (pa_cons pe_int (pa_cons pe_non pa_nil))) (pa_cons (pe_disp (pps_cons pe_int pe_int (pps_cons pe_int pe_int pps_nil)) (by rfl) (by rfl) (fun z => by cases z) (by decide)) pa_nil)))))))))) (pg_name (i := 5) sc_law.nd rfl (Or.inl rfl)) (pss_one (ps_if (pt_cmpR (r := rNeD K) (op_neD hr.units) (pe_call (ok_Lcouple_told T O) (hr.mono (by decide)) (by rfl) O.m_Lcouple_told O.F_Lcouple_told.kp O.b_Lcouple_told .nil pass0 (pa_cons (pv 6) (pa_cons (pv 5) pa_nil))) (pe_lst (pa_cons pe_str pa_nil)) (nomark _)) (pss_one (ps_ret pe_bl)) pss_nil)))
  (pss_cons (ps_if (pt_cmpR (r := rNeD K) (op_neD hr.units) (pe_tup (pa_cons (pe_call (ok_other_side T O) (hr.mono (by decide)) (by rfl) O.m_other_side O.F_other_side.kp O.b_other_side .nil pass0 (pa_cons (pe_glob (v := .int (0)) (by rfl) O.c_EAST ⟨_, rfl⟩) pa_nil)) (pa_cons (pe_call (ok_other_side T O) (hr.mono (by decide)) (by rfl) O.m_other_side O.F_other_side.kp O.b_other_side .nil pass0 (pa_cons (pe_glob (v := .int (1)) (by rfl) O.c_WEST ⟨_, rfl⟩) pa_nil)) pa_nil))) (pe_tup (pa_cons pe_int (pa_cons pe_int pa_nil))) (nomark _)) (pss_one (ps_ret pe_bl)) pss_nil)
  (pss_cons (ps_set (i := 10) sc_law.nd rfl (Or.inl rfl) (pe_op op_add pe_int (pe_call (ok_Ldraw T O) (hr.mono (by decide)) (by rfl) O.m_Ldraw O.F_Ldraw.kp O.b_Ldraw .nil pass0 (pa_cons (pv 1) (pa_cons (pe_op op_pow pe_int pe_int) pa_nil)))))
  (pss_cons (ps_if (pt_cmpR (r := rNeD K) (op_neD hr.units) (pe_lc (own := [("_law_side", 11)]) (by rfl) sc_law.nd (show PI _ _ _ (iTup K _) from pi_tup (pe_tup (pa_cons pe_int (pa_cons pe_int (pa_cons pe_int (pa_cons (pe_un un_neg pe_int) (pa_cons (pv 10) (pa_cons (pe_un un_neg (pv 10)) pa_nil)))))))) (blkOk_by (own := [("_law_side", 11)]) (N := ["_law_script", "_law_hand_here", "_law_p", "_law_q", "_law_due", "_law_thing", "_law_sides", "_law_east", "_law_west", "_law_told", "_law_far", "_law_side"]) (sc := defScope s_law) (by decide +kernel)) (fun _ _ _ _ _ => (pg_name (i := 11) sc_law.nd rfl (Or.inl rfl))) (fun _ _ _ _ _ => pts_nil) (fun _ _ _ _ _ => (pe_call (ok_Lside_told T O) (hr.mono (by decide)) (by rfl) O.m_Lside_told O.F_Lside_told.kp O.b_Lside_told .nil pass0 (pa_cons (pv 11) pa_nil)))) (pe_lst (pa_cons pe_int (pa_cons pe_int (pa_cons (pe_lst (pa_cons pe_str pa_nil)) (pa_cons (pe_lst (pa_cons pe_str pa_nil)) (pa_cons (pe_lst (pa_cons pe_str pa_nil)) (pa_cons (pe_lst (pa_cons pe_str pa_nil)) pa_nil))))))) (nomark _)) (pss_one (ps_ret pe_bl)) pss_nil)
  (pss_one (ps_ret (pe_callB (r := rAll K) (cr_all rfl) (by rfl) O.z_all (by decide +kernel) (pa_cons (pe_lc (own := [("_law_side", 11)]) (by rfl) sc_law.nd (show PI _ _ _ (iTup K _) from pi_tup (pe_tup (pa_cons pe_bl (pa_cons pe_bl (pa_cons pe_non (pa_cons pe_str (pa_cons (pe_tup (pa_cons pe_int pa_nil)) pa_nil))))))) (blkOk_by (own := [("_law_side", 11)]) (N := ["_law_script", "_law_hand_here", "_law_p", "_law_q", "_law_due", "_law_thing", "_law_sides", "_law_east", "_law_west", "_law_told", "_law_far", "_law_side"]) (sc := defScope s_law) (by decide +kernel)) (fun _ _ _ _ _ => (pg_name (i := 11) sc_law.nd rfl (Or.inl rfl))) (fun _ _ _ _ _ => pts_nil) (fun _ _ _ _ _ => (pe_cmpR (r := rEqD K) (op_eqD hr.units) (pe_call (ok_Lside_told T O) (hr.mono (by decide)) (by rfl) O.m_Lside_told O.F_Lside_told.kp O.b_Lside_told .nil pass0 (pa_cons (pv 11) pa_nil)) (pe_lst (pa_cons pe_str pa_nil)) (nomark _)))) pa_nil)))))))))))))))), ?_⟩
  walk_at "r"
  refine ⟨a, ns, rfl, hs, few, fun p l H1 s1 _ hh => ?_⟩
  walk_at "r"
  intro t1 ht1
  walk_at "r"
  intro t2 ht2
  refine ⟨_, _, Jv.dpT (ns := [0, 1, 0, 6, 6, 12]) (by walk_at "sq"), Jv.dpT (ns := [0, 1, 0, 6, 6, 12]) (by walk_at "sq"), Jv.shapedT _, Jv.shapedT _, ?_⟩
  rw [Jv.eqvT, decide_eq_true rfl]
  walk_at "r"
  have h2 := hh.same ((Jv.same_new (u := .tup [.int 0, .int 1, .int 0, .int 6, .int 6, .int 12]) ht1).trans (Jv.same_new (u := .tup [.int 0, .int 1, .int 0, .int 6, .int 6, .int 12]) ht2))
  generalize upd (upd H1 t1 (.tup [.int 0, .int 1, .int 0, .int 6, .int 6, .int 12])) t2 (.tup [.int 0, .int 1, .int 0, .int 6, .int 6, .int 12]) = H2 at h2 ⊢
  refine ⟨-1, 8, rfl, by decide, ?_⟩
  refine for_range (lo := -1) (n := (8 - -1 : Int).toNat) (fun i σ H3 => ∃ y2 y3 y4, σ = [some (.ref a), some (.ref p), y2, y3, y4, none, none, none, none, none, none, none] ∧ Same H2 H3) ⟨_, _, _, rfl, fun _ _ e => e⟩ ?_ ?_
  · rintro i σ H3 hi ⟨y2, y3, y4, rfl, s3⟩
    walk_at "r"
    refine ⟨-1, 8, rfl, by decide, ?_⟩
    generalize (-1 + (i : Int)) = e
    refine for_range (lo := -1) (n := (8 - -1 : Int).toNat) (fun i σ H3 => ∃ y3 y4, σ = [some (.ref a), some (.ref p), some (.int e), y3, y4, none, none, none, none, none, none, none] ∧ Same H2 H3) ⟨_, _, rfl, s3⟩ ?_ ?_
    · rintro j σ H4 hj ⟨y3, y4, rfl, s4⟩
      walk_at "r"
      generalize (-1 + (j : Int)) = f
      refine ⟨fun σ H5 => σ = [some (.ref a), some (.ref p), some (.int e), some (.int f), some (.bl (decide ((1 ≤ e ∧ e ≤ 6) ∧ (1 ≤ f ∧ f ≤ 6) ∧ e * f ≤ 12))), none, none, none, none, none, none, none] ∧ H5 = H4, ?_, ?_⟩
      · by_cases c : (1 ≤ e ∧ e ≤ 6) ∧ (1 ≤ f ∧ f ≤ 6)
        · have ed : decide ((1 ≤ e ∧ e ≤ 6) ∧ (1 ≤ f ∧ f ≤ 6) ∧ e * f ≤ 12) = decide (e * f ≤ 12) := decide_eq_decide.mpr ⟨fun h => h.2.2, fun h => ⟨c.1, c.2, h⟩⟩
          rw [ed]
          walk_at "rr"
          all_goals first | omega | exact ⟨rfl, rfl⟩
        · rw [decide_eq_false (fun h => c ⟨h.1, h.2.1⟩)]
          walk_at "rr"
          all_goals first | omega | exact ⟨rfl, rfl⟩
      · rintro σ H5 ⟨rfl, rfl⟩
        walk_at "r"
        intro t ht
        have sqt : Jv.Sq (upd H5 t (.tup [.int e, .int f])) (.ref t) [.int e, .int f] := ⟨t, rfl, .inr upd_same⟩
        refine ⟨_, rfl, Jv.thS_ints (ns := [e, f]) (.inr upd_same) (Nat.le_of_ble_eq_true rfl), fun H6 s6 => ?_⟩
        rw [sidesV_of sqt]
        walk_at "r"
        refine ⟨_, _, rfl, ?_⟩
        walk_at "r"
        intro u hu
        have squ : Jv.Sq (upd H6 u (.lst [.int e, .int f])) (.ref u) [.int e, .int f] := ⟨u, rfl, .inl upd_same⟩
        refine ⟨_, rfl, Jv.thS_ints (ns := [e, f]) (.inl upd_same) (Nat.le_of_ble_eq_true rfl), fun H7 s7 => ?_⟩
        rw [sidesV_of squ]
        walk_at "r"
        refine ⟨_, _, rfl, ?_⟩
        walk_at "r"
        exact ⟨_, _, rfl, (((s4.trans (Jv.same_new ht)).trans s6).trans (Jv.same_new hu)).trans s7⟩
    · rintro σ H4 ⟨y3, y4, rfl, s4⟩
      exact ⟨_, _, _, rfl, s4⟩
  · rintro σ H3 ⟨y2, y3, y4, rfl, s3⟩
    have h3 := h2.same s3
    walk_at "r"
    intro a1 n1
    walk_at "r"
    intro a2 n2
    walk_at "r"
    intro a3 n3
    walk_at "r"
    intro a4 n4
    walk_at "r"
    intro a5 n5
    walk_at "r"
    intro a6 n6
    walk_at "r"
    intro f hf
    refine ⟨f, rfl, ⟨_, Jv.sqL_at upd_same⟩, ?_⟩
    have sD := ((((((Jv.same_new (u := .tup [.int 2]) n1).trans (Jv.same_new (u := .tup [.int 2, .int 2, .int 2]) n2)).trans (Jv.same_new (u := .tup [.bl true, .int 2]) n3)).trans (Jv.same_new (u := .tup [.int 2, .non]) n4)).trans (Jv.same_new (u := .dK [(.inl 2, .int 2)]) n5)).trans (Jv.same_new (u := .tup []) n6)).trans (Jv.same_new (u := .lst [.non, .int 2, .str "22", .ref a1, .ref a2, .ref a3, .ref a4, .ref a5, .ref a6]) hf)
    generalize eD : upd (upd (upd (upd (upd (upd (upd H3 a1 (.tup [.int 2])) a2 (.tup [.int 2, .int 2, .int 2])) a3 (.tup [.bl true, .int 2])) a4 (.tup [.int 2, .non])) a5 (.dK [(.inl 2, .int 2)])) a6 (.tup [])) f (.lst [.non, .int 2, .str "22", .ref a1, .ref a2, .ref a3, .ref a4, .ref a5, .ref a6]) = HD at sD
    have xs : HD f = some (.lst [.non, .int 2, .str "22", .ref a1, .ref a2, .ref a3, .ref a4, .ref a5, .ref a6]) := by rw [← eD, upd_same]
    have th : ∀ v ∈ ([.non, .int 2, .str "22", .ref a1, .ref a2, .ref a3, .ref a4, .ref a5, .ref a6] : List V), NoS HD v := by
      have e1 : HD a1 = some (.tup [.int 2]) := by rw [← eD]; walk_at "hp"
      have e2 : HD a2 = some (.tup [.int 2, .int 2, .int 2]) := by rw [← eD]; walk_at "hp"
      have e3 : HD a3 = some (.tup [.bl true, .int 2]) := by rw [← eD]; walk_at "hp"
      have e4 : HD a4 = some (.tup [.int 2, .non]) := by rw [← eD]; walk_at "hp"
      have e5 : HD a5 = some (.dK [(.inl 2, .int 2)]) := by rw [← eD]; walk_at "hp"
      have e6 : HD a6 = some (.tup []) := by rw [← eD]; walk_at "hp"
      have tr : ∀ v : V, (v = .int 2 ∨ v = .non ∨ v = .bl true) → Jv.Th HD v := fun v h => by
        rcases h with rfl | rfl | rfl <;> trivial
      intro v hv
      simp only [List.mem_cons, List.mem_nil_iff, or_false] at hv
      rcases hv with rfl | rfl | rfl | rfl | rfl | rfl | rfl | rfl | rfl
      · exact noS_sc trivial rfl
      · exact noS_sc trivial rfl
      · exact noS_sc trivial rfl
      · exact noS_tup e1 (by decide) (fun v hv => tr v (by simp at hv; simp [hv])) (fun _ _ e => by cases e)
      · exact noS_tup e2 (by decide) (fun v hv => tr v (by simp at hv; simp [hv])) (fun _ _ e => by cases e)
      · exact noS_tup e3 (by decide) (fun v hv => tr v (by simp at hv; rcases hv with rfl | rfl <;> simp)) (fun _ _ e => by cases e)
      · exact noS_tup e4 (by decide) (fun v hv => tr v (by simp at hv; rcases hv with rfl | rfl <;> simp)) (fun _ _ e => by cases e)
      · exact noS_dK e5
      · exact noS_tup e6 (by decide) (fun v hv => by cases hv) (fun _ _ e => by cases e)
    refine for_list (K := K) (a := f) (xs := [.non, .int 2, .str "22", .ref a1, .ref a2, .ref a3, .ref a4, .ref a5, .ref a6]) (fun i σ H3 => ∃ y5, σ = [some (.ref a), some (.ref p), y2, y3, y4, y5, none, none, none, none, none, none] ∧ Same HD H3) ⟨_, rfl, fun _ _ e => e⟩ (fun i σ H2 _ ⟨_, _, s⟩ => Jv.sqL_at (s _ _ xs)) ?_ ?_
    · rintro i x σ H4 hx ⟨y5, rfl, s4⟩
      have tx := (th x (List.mem_of_getElem? hx)).same s4
      walk_at "r"
      refine ⟨_, rfl, tx.1, fun H5 s5 => ?_⟩
      rw [tx.2]
      walk_at "r"
      refine ⟨_, _, rfl, ?_⟩
      walk_at "r"
      exact ⟨_, rfl, s4.trans s5⟩
    · rintro σ H4 ⟨y5, rfl, s4⟩
      have h4 := h3.same (sD.trans s4)
      clear th xs eD sD s4
      walk_at "r"
      refine ⟨p, l, rfl, h4, fun H5 k5 h5 => ?_⟩
      walk_at "r"
      refine ⟨p, l, rfl, h5, fun H6 k6 h6 => ?_⟩
      walk_at "r"
      refine ⟨p, l, rfl, h6, fun H7 k7 h7 => ?_⟩
      walk_at "r"
      refine ⟨p, l, rfl, h7, fun r m n H8 ⟨⟨m0, m1⟩, ⟨n0, n1⟩, mn⟩ k8 h8 hr8 => ?_⟩
      have sq8 : Jv.Sq H8 (.ref r) [.int m, .int n] := ⟨r, rfl, .inr hr8⟩
      walk_at "r"
      refine ⟨_, m, n, rfl, sq8, ⟨by omega, by omega, by omega, by omega⟩, fun c refs H9 s9 hc tc => ?_⟩
      walk_at "r"
      refine ⟨_, m, n, rfl, sq8.same s9, ⟨by omega, by omega, by omega, by omega⟩, fun d refs2 HA sA hd td => ?_⟩
      walk_at "r"
      refine ⟨d, _, rfl, .inl ⟨Jv.sqL_at hd, fun t ht => ?_⟩⟩
      walk_at "r"
      refine ⟨_, _, .tup (Jv.sqT_at (Jv.kp (sA _ _ hc) ht)) (dp_prs ((tc.same sA).same (Jv.same_new ht))), .tup (Jv.sqT_at upd_same) (dp_prs (td.same (Jv.same_new ht))), shaped_prs _, shaped_prs _, ?_⟩
      rw [PyData.eqv, eqv_prs]
      walk_at "r"
      have s8 := (s9.trans sA).trans (Jv.same_new (u := .tup refs2) ht)
      refine ⟨_, m, n, rfl, sq8.same s8, ⟨by omega, by omega, by omega, by omega⟩, fun c2 refs3 HB sB hc2 _ => ?_⟩
      walk_at "r"
      refine ⟨_, _, _, _, true, rfl, .ty _, .base (.tup hc2), kit_ty (by decide +kernel), ?_⟩
      walk_at "r"
      have hB := h8.same (s8.trans sB)
      have hrB := (s8.trans sB) _ _ hr8
      clear s8 sB s9 sA
      walk_at "r"
      refine ⟨-1, m + 1, rfl, ⟨by omega, by omega, by omega, by omega⟩, ?_⟩
      refine for_range (lo := -1) (n := (m + 1 - -1 : Int).toNat) (fun i σ H3 => ∃ y4 y7 y8 y9, σ = [some (.ref a), some (.ref p), y2, y3, y4, y5, some (.ref r), y7, y8, y9, none, none] ∧ Same HB H3) ⟨_, _, _, _, rfl, fun _ _ e => e⟩ ?_ ?_
      · rintro i σ H3 hi ⟨y4, y7, y8, y9, rfl, s3⟩
        have hr3 := s3 _ _ hrB
        walk_at "r"
        refine ⟨-1, n + 1, rfl, ⟨by omega, by omega, by omega, by omega⟩, ?_⟩
        generalize (-1 + (i : Int)) = e
        refine for_range (lo := -1) (n := (n + 1 - -1 : Int).toNat) (fun i σ H3 => ∃ y4 y8 y9, σ = [some (.ref a), some (.ref p), y2, y3, y4, y5, some (.ref r), some (.int e), y8, y9, none, none] ∧ Same HB H3) ⟨_, _, _, rfl, s3⟩ ?_ ?_
        · rintro j σ H4 hj ⟨y4, y8, y9, rfl, s4⟩
          have hr4 := s4 _ _ hrB
          walk_at "r"
          generalize (-1 + (j : Int)) = f
          refine ⟨fun σ H5 => σ = [some (.ref a), some (.ref p), y2, y3, some (.bl (decide ((0 ≤ e ∧ e < m) ∧ (0 ≤ f ∧ f < n)))), y5, some (.ref r), some (.int e), some (.int f), y9, none, none] ∧ H5 = H4, ?_, ?_⟩
          · by_cases c : 0 ≤ e ∧ e < m
            · by_cases c2 : 0 ≤ f
              · have ed : decide ((0 ≤ e ∧ e < m) ∧ (0 ≤ f ∧ f < n)) = decide (f < n) := decide_eq_decide.mpr ⟨fun h => h.2.2, fun h => ⟨c, c2, h⟩⟩
                rw [ed]
                walk_at "rr"
                all_goals first | omega | exact ⟨rfl, rfl⟩
              · rw [decide_eq_false (fun h => c2 h.2.1)]
                walk_at "rr"
                all_goals first | omega | exact ⟨rfl, rfl⟩
            · rw [decide_eq_false (fun h => c h.1)]
              walk_at "rr"
              all_goals first | omega | exact ⟨rfl, rfl⟩
          · rintro σ H5 ⟨rfl, rfl⟩
            walk_at "r"
            intro t ht
            have sqt : Jv.Sq (upd H5 t (.lst [.int e, .int f])) (.ref t) [.int e, .int f] := ⟨t, rfl, .inl upd_same⟩
            have ct := coupleV_of (p := m) (q := n) sqt
            have sqr : Jv.Sq (upd H5 t (.lst [.int e, .int f])) (.ref r) [.int m, .int n] := ⟨r, rfl, .inr (Jv.kp hr4 ht)⟩
            refine ⟨_, m, n, _, rfl, sqr, Jv.thS_ints (ns := [e, f]) (.inl upd_same) (Nat.le_of_ble_eq_true rfl), fun eq g xs H6 s6 q6 hg => ?_, fun eq g H6 s6 _ hg => ?_⟩
            · rw [ct] at eq
              have exs : xs = [.int e, .int f] := by
                have := q6.of; rw [sqt.of] at this; exact (Option.some.inj this).symm
              subst exs
              walk_at "r"
              rw [eq]
              walk_at "r"
              intro u hu
              walk_at "r"
              refine ⟨_, _, Jv.dpT (ns := [e, f]) (Jv.sqT_at (Jv.kp hg hu)), Jv.dpT (ns := [e, f]) (Jv.sqT_at upd_same), Jv.shapedT _, Jv.shapedT _, ?_⟩
              rw [Jv.eqvT, decide_eq_true rfl]
              walk_at "r"
              intro v hv
              have sqv : Jv.Sq (upd (upd H6 u (.tup [.int e, .int f])) v (.tup [.int e, .int f])) (.ref v) [.int e, .int f] := ⟨v, rfl, .inr upd_same⟩
              have cv := coupleV_of (p := m) (q := n) sqv
              refine ⟨_, m, n, _, rfl, sqr.same ((s6.trans (Jv.same_new hu)).trans (Jv.same_new hv)), Jv.thS_ints (ns := [e, f]) (.inr upd_same) (Nat.le_of_ble_eq_true rfl), fun eq2 g2 xs2 H7 s7 q7 hg2 => ?_, fun eq2 => ?_⟩
              · have exs : xs2 = [.int e, .int f] := by
                  have := q7.of; rw [sqv.of] at this; exact (Option.some.inj this).symm
                subst exs
                walk_at "r"
                refine ⟨_, _, Jv.dpT (ns := [e, f]) (Jv.sqT_at hg2), Jv.dpT (ns := [e, f]) (Jv.sqT_at (s7 _ _ (Jv.kp (Jv.kp hg hu) hv))), Jv.shapedT _, Jv.shapedT _, ?_⟩
                rw [Jv.eqvT, decide_eq_true rfl]
                walk_at "r"
                exact ⟨_, _, _, rfl, ((((s4.trans (Jv.same_new ht)).trans s6).trans (Jv.same_new hu)).trans (Jv.same_new hv)).trans s7⟩
              · rw [cv, eq] at eq2; cases eq2
            · rw [ct] at eq
              walk_at "r"
              rw [eq]
              walk_at "r"
              intro u hu
              walk_at "r"
              refine ⟨_, _, dp_b (Jv.kp hg hu), dp_b upd_same, shaped_b, shaped_b, ?_⟩
              rw [eqv_b]
              walk_at "r"
              intro v hv
              have sqv : Jv.Sq (upd (upd H6 u (.lst [.str "bad"])) v (.tup [.int e, .int f])) (.ref v) [.int e, .int f] := ⟨v, rfl, .inr upd_same⟩
              have cv := coupleV_of (p := m) (q := n) sqv
              refine ⟨_, m, n, _, rfl, sqr.same ((s6.trans (Jv.same_new hu)).trans (Jv.same_new hv)), Jv.thS_ints (ns := [e, f]) (.inr upd_same) (Nat.le_of_ble_eq_true rfl), fun eq2 => ?_, fun eq2 g2 H7 s7 _ hg2 => ?_⟩
              · rw [cv, eq] at eq2; cases eq2
              · walk_at "r"
                refine ⟨_, _, dp_b hg2, dp_b (s7 _ _ (Jv.kp (Jv.kp hg hu) hv)), shaped_b, shaped_b, ?_⟩
                rw [eqv_b]
                walk_at "r"
                exact ⟨_, _, _, rfl, ((((s4.trans (Jv.same_new ht)).trans s6).trans (Jv.same_new hu)).trans (Jv.same_new hv)).trans s7⟩
        · rintro σ H4 ⟨y4, y8, y9, rfl, s4⟩
          exact ⟨_, _, _, _, rfl, s4⟩
      · rintro σ H3 ⟨y4, y7, y8, y9, rfl, s3⟩
        have hr3 := s3 _ _ hrB
        have h3 := hB.same s3
        clear s3 hB hrB
        walk_at "r"
        intro a1 n1
        walk_at "r"
        intro a2 n2
        walk_at "r"
        intro a3 n3
        walk_at "r"
        intro a4 n4
        walk_at "r"
        refine Jv.r_disp2 (by decide) ?_
        intro a5 n5
        walk_at "r"
        intro f hf
        refine ⟨f, rfl, ⟨_, Jv.sqL_at upd_same⟩, ?_⟩
        have sD := (((((Jv.same_new (u := .tup [.int 0]) n1).trans (Jv.same_new (u := .tup [.int 0, .int 0, .int 0]) n2)).trans (Jv.same_new (u := .tup [.bl false, .int 0]) n3)).trans (Jv.same_new (u := .tup [.int 0, .non]) n4)).trans (Jv.same_new (u := .dK [(.inl 0, .int 0), (.inl 1, .int 0)]) n5)).trans (Jv.same_new (u := .lst [.non, .int 0, .str "00", .ref a1, .ref a2, .ref a3, .ref a4, .ref a5]) hf)
        generalize eD : upd (upd (upd (upd (upd (upd H3 a1 (.tup [.int 0])) a2 (.tup [.int 0, .int 0, .int 0])) a3 (.tup [.bl false, .int 0])) a4 (.tup [.int 0, .non])) a5 (.dK [(.inl 0, .int 0), (.inl 1, .int 0)])) f (.lst [.non, .int 0, .str "00", .ref a1, .ref a2, .ref a3, .ref a4, .ref a5]) = HD at sD
        have xs : HD f = some (.lst [.non, .int 0, .str "00", .ref a1, .ref a2, .ref a3, .ref a4, .ref a5]) := by rw [← eD, upd_same]
        have th : ∀ v ∈ ([.non, .int 0, .str "00", .ref a1, .ref a2, .ref a3, .ref a4, .ref a5] : List V), NoC HD v m n := by
          have e1 : HD a1 = some (.tup [.int 0]) := by rw [← eD]; walk_at "hp"
          have e2 : HD a2 = some (.tup [.int 0, .int 0, .int 0]) := by rw [← eD]; walk_at "hp"
          have e3 : HD a3 = some (.tup [.bl false, .int 0]) := by rw [← eD]; walk_at "hp"
          have e4 : HD a4 = some (.tup [.int 0, .non]) := by rw [← eD]; walk_at "hp"
          have e5 : HD a5 = some (.dK [(.inl 0, .int 0), (.inl 1, .int 0)]) := by rw [← eD]; walk_at "hp"
          have tr : ∀ v : V, (v = .int 0 ∨ v = .non ∨ v = .bl false) → Jv.Th HD v := fun v h => by
            rcases h with rfl | rfl | rfl <;> trivial
          intro v hv
          simp only [List.mem_cons, List.mem_nil_iff, or_false] at hv
          rcases hv with rfl | rfl | rfl | rfl | rfl | rfl | rfl | rfl
          · exact noC_sc trivial rfl
          · exact noC_sc trivial rfl
          · exact noC_sc trivial rfl
          · exact noC_tup e1 (by decide) (fun v hv => tr v (by simp at hv; simp [hv])) (fun _ _ e => by cases e)
          · exact noC_tup e2 (by decide) (fun v hv => tr v (by simp at hv; simp [hv])) (fun _ _ e => by cases e)
          · exact noC_tup e3 (by decide) (fun v hv => tr v (by simp at hv; rcases hv with rfl | rfl <;> simp)) (fun _ _ e => by cases e; rfl)
          · exact noC_tup e4 (by decide) (fun v hv => tr v (by simp at hv; rcases hv with rfl | rfl <;> simp)) (fun _ _ e => by cases e; rfl)
          · exact noC_dK e5
        have hrD := sD _ _ hr3
        refine for_list (K := K) (a := f) (xs := [.non, .int 0, .str "00", .ref a1, .ref a2, .ref a3, .ref a4, .ref a5]) (fun i σ H3 => ∃ y5, σ = [some (.ref a), some (.ref p), y2, y3, y4, y5, some (.ref r), y7, y8, y9, none, none] ∧ Same HD H3) ⟨_, rfl, fun _ _ e => e⟩ (fun i σ H2 _ ⟨_, _, s⟩ => Jv.sqL_at (s _ _ xs)) ?_ ?_
        · rintro i x σ H4 hx ⟨y5, rfl, s4⟩
          have tx := (th x (List.mem_of_getElem? hx)).same s4
          walk_at "r"
          refine ⟨_, m, n, _, rfl, ⟨r, rfl, .inr (s4 _ _ hrD)⟩, tx.1, fun eq => ?_, fun eq g H5 s5 _ hg => ?_⟩
          · rw [tx.2] at eq; cases eq
          · walk_at "r"
            intro u hu
            refine ⟨_, _, dp_b (Jv.kp hg hu), dp_b upd_same, shaped_b, shaped_b, ?_⟩
            rw [eqv_b]
            walk_at "r"
            exact ⟨_, rfl, (s4.trans s5).trans (Jv.same_new hu)⟩
        · rintro σ H4 ⟨y5, rfl, s4⟩
          have h4 := h3.same (sD.trans s4)
          clear th xs eD sD s4 hrD hr3
          walk_at "r"
          refine ⟨0, rfl, ?_⟩
          walk_at "r"
          refine ⟨1, rfl, ?_⟩
          walk_at "r"
          intro t ht
          walk_at "r"
          intro u hu
          refine ⟨_, _, Jv.dpT (ns := [1, 0]) (by walk_at "sq"), Jv.dpT (ns := [1, 0]) (by walk_at "sq"), Jv.shapedT _, Jv.shapedT _, ?_⟩
          rw [Jv.eqvT, decide_eq_true rfl]
          walk_at "r"
          refine ⟨p, l, _, rfl, h4.same ((Jv.same_new ht).trans (Jv.same_new hu)), ⟨by decide, Jv.log_small (by decide) (by decide)⟩, fun z H5 z0 _ k5 h5 => ?_⟩
          walk_at "r"
          have z2 : 2 ≤ 2 + z := by omega
          generalize (2 + z : Int) = g at z2 ⊢
          refine Jv.r_lc ?_
          walk_at "r"
          intro v hv
          refine ⟨v, rfl, ⟨_, Jv.sqT_at upd_same⟩, fun D hD => ?_⟩
          have hsz : sixD.length = 6 := rfl
          have sV : Same H5 (upd H5 v (.tup [.int 0, .int 1, .int 2, .int (-1), .int g, .int (-g)])) := Jv.same_new hv
          refine lc_it (walk_tup (K := K) (a := v) (xs := [.int 0, .int 1, .int 2, .int (-1), .int g, .int (-g)])) (fun i H' => ∃ acc, Same (upd H5 v (.tup [.int 0, .int 1, .int 2, .int (-1), .int g, .int (-g)])) H' ∧ H' D = some (.lst acc) ∧ Paired (Good D H') acc (sixD.take i)) ⟨[], Jv.same_new hD, upd_same, .nil⟩ (fun i H' _ ⟨_, s6, _⟩ => Jv.sqT_at (s6 _ _ upd_same)) ?_ ?_
          · rintro i x H6 H7 hi ⟨acc, s6, e6, pr⟩ ⟨rfl, hx⟩
            have la : acc.length ≤ 6 := by
              have := Paired.length pr
              rw [List.length_take, hsz] at this; omega
            obtain ⟨z, rfl, hz⟩ := six_at z2 hx
            walk_at "r"
            refine ⟨_, rfl, trivial, fun e => ?_, fun e q H8 s8 hq0 hq => ?_⟩
            · rcases hz with ⟨_, hz⟩ | ⟨e2, _⟩
              · refine ⟨acc, e6, Jv.small_lt (by omega), acc ++ [.int z], ?_, upd_same, ?_⟩
                · intro b o hb; exact Jv.kpO (s6 b o hb) (ne_of_none hb hD)
                · rw [Jv.take_more hz]
                  exact Jv.Paired.snoc (.inl ⟨z, rfl, rfl⟩) (Jv.Paired.mono' (fun _ _ g => g.mono fun b o nb hb => Jv.kpO hb nb) pr)
              · rw [e] at e2; cases e2
            · rcases hz with ⟨e2, _⟩ | ⟨_, hz⟩
              · rw [e] at e2; cases e2
              · have nq : q ≠ D := (ne_of_none e6 hq0).symm
                refine ⟨acc, s8 _ _ e6, Jv.small_lt (by omega), acc ++ [.ref q], ?_, upd_same, ?_⟩
                · intro b o hb; exact Jv.kpO (s8 _ _ (s6 b o hb)) (ne_of_none hb hD)
                · rw [Jv.take_more hz]
                  exact Jv.Paired.snoc (.inr ⟨q, rfl, nq, by rw [upd_ne nq]; exact hq, rfl⟩) (Jv.Paired.mono' (fun _ _ g => g.mono fun b o nb hb => Jv.kpO (s8 _ _ hb) nb) pr)
          · rintro H6 ⟨acc, s6, e6, pr⟩
            have dA : DpAll K H6 acc sixD := dp_good pr
            walk_at "r"
            intro c1 m1
            walk_at "r"
            intro c2 m2
            walk_at "r"
            intro c3 m3
            walk_at "r"
            intro c4 m4
            walk_at "r"
            intro c5 m5
            have sA := (((Jv.same_new (u := .lst [.str "bad"]) m1).trans (Jv.same_new (u := .lst [.str "bad"]) m2)).trans (Jv.same_new (u := .lst [.str "bad"]) m3)).trans (Jv.same_new (u := .lst [.str "bad"]) m4)
            have sB := sA.trans (Jv.same_new (u := .lst [.int 0, .int 1, .ref c1, .ref c2, .ref c3, .ref c4]) m5)
            refine ⟨.list sixD, .list sixD, .lst (Jv.sqL_at (sB _ _ e6)) (dpAll_same sB dA), .lst (Jv.sqL_at upd_same) (.cons (.int 0) (.cons (.int 1) (.cons (dp_b (by walk_at "hp")) (.cons (dp_b (by walk_at "hp")) (.cons (dp_b (by walk_at "hp")) (.cons (dp_b (by walk_at "hp")) .nil)))))), shaped_six, shaped_six, ?_⟩
            rw [eqv_six]
            walk_at "r"
            clear sA sB dA pr e6 s6
            refine Jv.r_lc ?_
            walk_at "r"
            intro c hc
            walk_at "r"
            intro t ht
            refine ⟨t, rfl, ⟨_, Jv.sqT_at upd_same⟩, ?_⟩
            have hc2 := Jv.kp (u := .tup [.bl true, .bl false, .non, .str "0", .ref c]) (upd_same (o := .tup [.int 0])) ht
            intro D hD
            have sT : Same H6 H6 := Same.refl _
            refine lc_it (walk_tup (K := K) (a := t) (xs := [.bl true, .bl false, .non, .str "0", .ref c])) (fun i H7 => H7 c = some (.tup [.int 0]) ∧ H7 t = some (.tup [.bl true, .bl false, .non, .str "0", .ref c]) ∧ H7 D = some (.lst ((([.bl true, .bl false, .non, .str "0", .ref c] : List V).take i).map fun _ => .bl true))) ⟨Jv.kp hc2 hD, Jv.kp upd_same hD, upd_same⟩ (fun i H7 _ s7 => Jv.sqT_at s7.2.1) ?_ ?_
            · rintro i v H7 H7' hi ⟨ec, et, eD⟩ ⟨rfl, hx⟩
              have mv := List.mem_of_getElem? hx
              have hi5 : i < 5 := hi
              have tv : Jv.Th H7' v ∧ Jv.wholeV v (.int 0) (.int 1) = false := by
                simp only [List.mem_cons, List.mem_nil_iff, or_false] at mv
                rcases mv with rfl | rfl | rfl | rfl | rfl
                · exact ⟨trivial, rfl⟩
                · exact ⟨trivial, rfl⟩
                · exact ⟨trivial, rfl⟩
                · exact ⟨trivial, rfl⟩
                · exact ⟨.inr (.inl ⟨_, ec⟩), rfl⟩
              have ncD : c ≠ D := ne_of_none hc2 hD
              have ntD : t ≠ D := ne_of_none upd_same hD
              walk_at "r"
              refine ⟨_, rfl, tv.1, fun e => ?_, fun e q H8 s8 _ hq => ?_⟩
              · rw [tv.2] at e; cases e
              · walk_at "r"
                intro u hu
                refine ⟨_, _, dp_b (Jv.kp hq hu), dp_b upd_same, shaped_b, shaped_b, ?_⟩
                rw [eqv_b]
                refine ⟨_, Jv.kp (s8 _ _ eD) hu, ?_, Jv.kpO (Jv.kp (s8 _ _ ec) hu) ncD, Jv.kpO (Jv.kp (s8 _ _ et) hu) ntD, ?_⟩
                · rw [List.length_map, List.length_take]; exact Jv.small_lt (by omega)
                · rw [upd_same, Jv.take_more hx, List.map_append]; rfl
            · rintro H7 ⟨ec, et, eD⟩
              walk_at "r"
              exact Jv.r_all (xs := [.bl true, .bl false, .non, .str "0", .ref c]) (f := fun _ => true) eD (k _)
end
end K01

namespace K01
open PySem PySem.Spec PyProof.Rows L2
theorem all_mk {P : Program} {w : World} {fa : Addr} {K : PySem.W.Frag} {h : Heap} {mg : Str → Option Value} (X : K.In h) (G : h.Ns mainGlobals mg) (hfa : mg "law" = some (.ref fa))
  {C_CallError : Addr}
  {C_BadCouple : Addr}
  {C_BadLot : Addr}
  {C_BadSide : Addr}
  {f_BadLotu_initu : Addr} {od_BadLotu_initu an_BadLotu_initu : Option Addr} {sl_BadLotu_initu : Array (Option Value)} {oc_BadLotu_initu kV_BadLotu_initu dc_BadLotu_initu pm_BadLotu_initu cd_BadLotu_initu ct_BadLotu_initu : Value}
  {f_is_whole : Addr} {od_is_whole an_is_whole : Option Addr} {sl_is_whole : Array (Option Value)} {oc_is_whole kV_is_whole dc_is_whole pm_is_whole cd_is_whole ct_is_whole : Value}
  {q_is_whole : Addr} {qc_is_whole : Value} {qd_is_whole : Option Addr} {qs_is_whole : Array (Option Value)} {qn_is_whole : Nat}
  {f_is_sequence : Addr} {od_is_sequence an_is_sequence : Option Addr} {sl_is_sequence : Array (Option Value)} {oc_is_sequence kV_is_sequence dc_is_sequence pm_is_sequence cd_is_sequence ct_is_sequence : Value}
  {f_other_side : Addr} {od_other_side an_other_side : Option Addr} {sl_other_side : Array (Option Value)} {oc_other_side kV_other_side dc_other_side pm_other_side cd_other_side ct_other_side : Value}
  {f_check_side : Addr} {od_check_side an_check_side : Option Addr} {sl_check_side : Array (Option Value)} {oc_check_side kV_check_side dc_check_side pm_check_side cd_check_side ct_check_side : Value}
  {f_are_sides : Addr} {od_are_sides an_are_sides : Option Addr} {sl_are_sides : Array (Option Value)} {oc_are_sides kV_are_sides dc_are_sides pm_are_sides cd_are_sides ct_are_sides : Value}
  {f_couples_of : Addr} {od_couples_of an_couples_of : Option Addr} {sl_couples_of : Array (Option Value)} {oc_couples_of kV_couples_of dc_couples_of pm_couples_of cd_couples_of ct_couples_of : Value}
  {f_check_couple : Addr} {od_check_couple an_check_couple : Option Addr} {sl_check_couple : Array (Option Value)} {oc_check_couple kV_check_couple dc_check_couple pm_check_couple cd_check_couple ct_check_couple : Value}
  {f_are_kinds : Addr} {od_are_kinds an_are_kinds : Option Addr} {sl_are_kinds : Array (Option Value)} {oc_are_kinds kV_are_kinds dc_are_kinds pm_are_kinds cd_are_kinds ct_are_kinds : Value}
  {f_is_lot : Addr} {od_is_lot an_is_lot : Option Addr} {sl_is_lot : Array (Option Value)} {oc_is_lot kV_is_lot dc_is_lot pm_is_lot cd_is_lot ct_is_lot : Value}
  {f_check_lot : Addr} {od_check_lot an_check_lot : Option Addr} {sl_check_lot : Array (Option Value)} {oc_check_lot kV_check_lot dc_check_lot pm_check_lot cd_check_lot ct_check_lot : Value}
  {f_is_order : Addr} {od_is_order an_is_order : Option Addr} {sl_is_order : Array (Option Value)} {oc_is_order kV_is_order dc_is_order pm_is_order cd_is_order ct_is_order : Value}
  {f_Lmix : Addr} {od_Lmix an_Lmix : Option Addr} {sl_Lmix : Array (Option Value)} {oc_Lmix kV_Lmix dc_Lmix pm_Lmix cd_Lmix ct_Lmix : Value}
  {f_Lhand : Addr} {od_Lhand an_Lhand : Option Addr} {sl_Lhand : Array (Option Value)} {oc_Lhand kV_Lhand dc_Lhand pm_Lhand cd_Lhand ct_Lhand : Value}
  {f_Ldraw : Addr} {od_Ldraw an_Ldraw : Option Addr} {sl_Ldraw : Array (Option Value)} {oc_Ldraw kV_Ldraw dc_Ldraw pm_Ldraw cd_Ldraw ct_Ldraw : Value}
  {f_Lcouples : Addr} {od_Lcouples an_Lcouples : Option Addr} {sl_Lcouples : Array (Option Value)} {oc_Lcouples kV_Lcouples dc_Lcouples pm_Lcouples cd_Lcouples ct_Lcouples : Value}
  {f_Lis : Addr} {od_Lis an_Lis : Option Addr} {sl_Lis : Array (Option Value)} {oc_Lis kV_Lis dc_Lis pm_Lis cd_Lis ct_Lis : Value}
  {f_Lwide_sides : Addr} {od_Lwide_sides an_Lwide_sides : Option Addr} {sl_Lwide_sides : Array (Option Value)} {oc_Lwide_sides kV_Lwide_sides dc_Lwide_sides pm_Lwide_sides cd_Lwide_sides ct_Lwide_sides : Value}
  {f_Lorder : Addr} {od_Lorder an_Lorder : Option Addr} {sl_Lorder : Array (Option Value)} {oc_Lorder kV_Lorder dc_Lorder pm_Lorder cd_Lorder ct_Lorder : Value}
  {f_Llot_told : Addr} {od_Llot_told an_Llot_told : Option Addr} {sl_Llot_told : Array (Option Value)} {oc_Llot_told kV_Llot_told dc_Llot_told pm_Llot_told cd_Llot_told ct_Llot_told : Value}
  {f_Lcouple_told : Addr} {od_Lcouple_told an_Lcouple_told : Option Addr} {sl_Lcouple_told : Array (Option Value)} {oc_Lcouple_told kV_Lcouple_told dc_Lcouple_told pm_Lcouple_told cd_Lcouple_told ct_Lcouple_told : Value}
  {f_Lside_told : Addr} {od_Lside_told an_Lside_told : Option Addr} {sl_Lside_told : Array (Option Value)} {oc_Lside_told kV_Lside_told dc_Lside_told pm_Lside_told cd_Lside_told ct_Lside_told : Value}
  {f_Lrises : Addr} {od_Lrises an_Lrises : Option Addr} {sl_Lrises : Array (Option Value)} {oc_Lrises kV_Lrises dc_Lrises pm_Lrises cd_Lrises ct_Lrises : Value}
  {f_Lnumbers_right : Addr} {od_Lnumbers_right an_Lnumbers_right : Option Addr} {sl_Lnumbers_right : Array (Option Value)} {oc_Lnumbers_right kV_Lnumbers_right dc_Lnumbers_right pm_Lnumbers_right cd_Lnumbers_right ct_Lnumbers_right : Value}
  {f_Llots_right : Addr} {od_Llots_right an_Llots_right : Option Addr} {sl_Llots_right : Array (Option Value)} {oc_Llots_right kV_Llots_right dc_Llots_right pm_Llots_right cd_Llots_right ct_Llots_right : Value}
  {f_Lorders_right : Addr} {od_Lorders_right an_Lorders_right : Option Addr} {sl_Lorders_right : Array (Option Value)} {oc_Lorders_right kV_Lorders_right dc_Lorders_right pm_Lorders_right cd_Lorders_right ct_Lorders_right : Value}
  {f_law : Addr} {od_law an_law : Option Addr} {sl_law : Array (Option Value)} {oc_law kV_law dc_law pm_law cd_law ct_law : Value}
  {nm_BadLot qn_BadLot : Str} {N_BadLot : Addr} {bs_BadLot : List Value} {sn_BadLot : List Str} {sb_BadLot : List Value} {ab_BadLot : Bool} {co_BadLot : Option Bool} {dd_BadLot : Option Addr} {m0_BadLot m1_BadLot m2_BadLot m3_BadLot m5_BadLot : Option Value}
  {t_EAST : Tok}
  {t_WEST : Tok}
  {t_STOP : Tok}
  {t_LADDER_MOST : Tok}
  {t_KINDS_MOST : Tok}
  {t_COUPLES_MOST : Tok}
  (a_CallError : PySem.W.nsIn K mainGlobals "CallError" = some (some (.ref C_CallError)))
  (a_BadCouple : PySem.W.nsIn K mainGlobals "BadCouple" = some (some (.ref C_BadCouple)))
  (a_BadLot : PySem.W.nsIn K mainGlobals "BadLot" = some (some (.ref C_BadLot)))
  (a_BadSide : PySem.W.nsIn K mainGlobals "BadSide" = some (some (.ref C_BadSide)))
  (a_BadLotu_initu : PySem.W.findIn K (.ref C_BadLot) "__init__" = some (some (.ref f_BadLotu_initu)))
  (l_BadLotu_initu : K.lookup f_BadLotu_initu = some ⟨oc_BadLotu_initu, od_BadLotu_initu, .func (PySem.W.fnOf "__init__" "BadLot.__init__" (defArgs s_BadLotu_initu) (defBody s_BadLotu_initu) (defScope s_BadLotu_initu) .none kV_BadLotu_initu dc_BadLotu_initu pm_BadLotu_initu an_BadLotu_initu cd_BadLotu_initu ct_BadLotu_initu), sl_BadLotu_initu⟩)
  (c_BadLotu_initu : PySem.W.codeIn K cd_BadLotu_initu "BadLot.__init__" = true)
  (k_BadLotu_initu : PySem.W.keepIn K (.ref f_BadLotu_initu) = true)
  (a_is_whole : PySem.W.nsIn K mainGlobals "is_whole" = some (some (.ref f_is_whole)))
  (l_is_whole : K.lookup f_is_whole = some ⟨oc_is_whole, od_is_whole, .func (PySem.W.fnOf "is_whole" "is_whole" (defArgs s_is_whole) (defBody s_is_whole) (defScope s_is_whole) (.ref q_is_whole) kV_is_whole dc_is_whole pm_is_whole an_is_whole cd_is_whole ct_is_whole), sl_is_whole⟩)
  (c_is_whole : PySem.W.codeIn K cd_is_whole "is_whole" = true)
  (k_is_whole : PySem.W.keepIn K (.ref f_is_whole) = true)
  (t_is_whole : K.lookup q_is_whole = some ⟨qc_is_whole, qd_is_whole, .seq #[Value.none, Value.none] qn_is_whole, qs_is_whole⟩)
  (a_is_sequence : PySem.W.nsIn K mainGlobals "is_sequence" = some (some (.ref f_is_sequence)))
  (l_is_sequence : K.lookup f_is_sequence = some ⟨oc_is_sequence, od_is_sequence, .func (PySem.W.fnOf "is_sequence" "is_sequence" (defArgs s_is_sequence) (defBody s_is_sequence) (defScope s_is_sequence) .none kV_is_sequence dc_is_sequence pm_is_sequence an_is_sequence cd_is_sequence ct_is_sequence), sl_is_sequence⟩)
  (c_is_sequence : PySem.W.codeIn K cd_is_sequence "is_sequence" = true)
  (k_is_sequence : PySem.W.keepIn K (.ref f_is_sequence) = true)
  (a_other_side : PySem.W.nsIn K mainGlobals "other_side" = some (some (.ref f_other_side)))
  (l_other_side : K.lookup f_other_side = some ⟨oc_other_side, od_other_side, .func (PySem.W.fnOf "other_side" "other_side" (defArgs s_other_side) (defBody s_other_side) (defScope s_other_side) .none kV_other_side dc_other_side pm_other_side an_other_side cd_other_side ct_other_side), sl_other_side⟩)
  (c_other_side : PySem.W.codeIn K cd_other_side "other_side" = true)
  (k_other_side : PySem.W.keepIn K (.ref f_other_side) = true)
  (a_check_side : PySem.W.nsIn K mainGlobals "check_side" = some (some (.ref f_check_side)))
  (l_check_side : K.lookup f_check_side = some ⟨oc_check_side, od_check_side, .func (PySem.W.fnOf "check_side" "check_side" (defArgs s_check_side) (defBody s_check_side) (defScope s_check_side) .none kV_check_side dc_check_side pm_check_side an_check_side cd_check_side ct_check_side), sl_check_side⟩)
  (c_check_side : PySem.W.codeIn K cd_check_side "check_side" = true)
  (k_check_side : PySem.W.keepIn K (.ref f_check_side) = true)
  (a_are_sides : PySem.W.nsIn K mainGlobals "are_sides" = some (some (.ref f_are_sides)))
  (l_are_sides : K.lookup f_are_sides = some ⟨oc_are_sides, od_are_sides, .func (PySem.W.fnOf "are_sides" "are_sides" (defArgs s_are_sides) (defBody s_are_sides) (defScope s_are_sides) .none kV_are_sides dc_are_sides pm_are_sides an_are_sides cd_are_sides ct_are_sides), sl_are_sides⟩)
  (c_are_sides : PySem.W.codeIn K cd_are_sides "are_sides" = true)
  (k_are_sides : PySem.W.keepIn K (.ref f_are_sides) = true)
  (a_couples_of : PySem.W.nsIn K mainGlobals "couples_of" = some (some (.ref f_couples_of)))
  (l_couples_of : K.lookup f_couples_of = some ⟨oc_couples_of, od_couples_of, .func (PySem.W.fnOf "couples_of" "couples_of" (defArgs s_couples_of) (defBody s_couples_of) (defScope s_couples_of) .none kV_couples_of dc_couples_of pm_couples_of an_couples_of cd_couples_of ct_couples_of), sl_couples_of⟩)
  (c_couples_of : PySem.W.codeIn K cd_couples_of "couples_of" = true)
  (k_couples_of : PySem.W.keepIn K (.ref f_couples_of) = true)
  (a_check_couple : PySem.W.nsIn K mainGlobals "check_couple" = some (some (.ref f_check_couple)))
  (l_check_couple : K.lookup f_check_couple = some ⟨oc_check_couple, od_check_couple, .func (PySem.W.fnOf "check_couple" "check_couple" (defArgs s_check_couple) (defBody s_check_couple) (defScope s_check_couple) .none kV_check_couple dc_check_couple pm_check_couple an_check_couple cd_check_couple ct_check_couple), sl_check_couple⟩)
  (c_check_couple : PySem.W.codeIn K cd_check_couple "check_couple" = true)
  (k_check_couple : PySem.W.keepIn K (.ref f_check_couple) = true)
  (a_are_kinds : PySem.W.nsIn K mainGlobals "are_kinds" = some (some (.ref f_are_kinds)))
  (l_are_kinds : K.lookup f_are_kinds = some ⟨oc_are_kinds, od_are_kinds, .func (PySem.W.fnOf "are_kinds" "are_kinds" (defArgs s_are_kinds) (defBody s_are_kinds) (defScope s_are_kinds) .none kV_are_kinds dc_are_kinds pm_are_kinds an_are_kinds cd_are_kinds ct_are_kinds), sl_are_kinds⟩)
  (c_are_kinds : PySem.W.codeIn K cd_are_kinds "are_kinds" = true)
  (k_are_kinds : PySem.W.keepIn K (.ref f_are_kinds) = true)
  (a_is_lot : PySem.W.nsIn K mainGlobals "is_lot" = some (some (.ref f_is_lot)))
  (l_is_lot : K.lookup f_is_lot = some ⟨oc_is_lot, od_is_lot, .func (PySem.W.fnOf "is_lot" "is_lot" (defArgs s_is_lot) (defBody s_is_lot) (defScope s_is_lot) .none kV_is_lot dc_is_lot pm_is_lot an_is_lot cd_is_lot ct_is_lot), sl_is_lot⟩)
  (c_is_lot : PySem.W.codeIn K cd_is_lot "is_lot" = true)
  (k_is_lot : PySem.W.keepIn K (.ref f_is_lot) = true)
  (a_check_lot : PySem.W.nsIn K mainGlobals "check_lot" = some (some (.ref f_check_lot)))
  (l_check_lot : K.lookup f_check_lot = some ⟨oc_check_lot, od_check_lot, .func (PySem.W.fnOf "check_lot" "check_lot" (defArgs s_check_lot) (defBody s_check_lot) (defScope s_check_lot) .none kV_check_lot dc_check_lot pm_check_lot an_check_lot cd_check_lot ct_check_lot), sl_check_lot⟩)
  (c_check_lot : PySem.W.codeIn K cd_check_lot "check_lot" = true)
  (k_check_lot : PySem.W.keepIn K (.ref f_check_lot) = true)
  (a_is_order : PySem.W.nsIn K mainGlobals "is_order" = some (some (.ref f_is_order)))
  (l_is_order : K.lookup f_is_order = some ⟨oc_is_order, od_is_order, .func (PySem.W.fnOf "is_order" "is_order" (defArgs s_is_order) (defBody s_is_order) (defScope s_is_order) .none kV_is_order dc_is_order pm_is_order an_is_order cd_is_order ct_is_order), sl_is_order⟩)
  (c_is_order : PySem.W.codeIn K cd_is_order "is_order" = true)
  (k_is_order : PySem.W.keepIn K (.ref f_is_order) = true)
  (a_Lmix : PySem.W.nsIn K mainGlobals "_law_mix" = some (some (.ref f_Lmix)))
  (l_Lmix : K.lookup f_Lmix = some ⟨oc_Lmix, od_Lmix, .func (PySem.W.fnOf "_law_mix" "_law_mix" (defArgs s_Lmix) (defBody s_Lmix) (defScope s_Lmix) .none kV_Lmix dc_Lmix pm_Lmix an_Lmix cd_Lmix ct_Lmix), sl_Lmix⟩)
  (c_Lmix : PySem.W.codeIn K cd_Lmix "_law_mix" = true)
  (k_Lmix : PySem.W.keepIn K (.ref f_Lmix) = true)
  (a_Lhand : PySem.W.nsIn K mainGlobals "_law_hand" = some (some (.ref f_Lhand)))
  (l_Lhand : K.lookup f_Lhand = some ⟨oc_Lhand, od_Lhand, .func (PySem.W.fnOf "_law_hand" "_law_hand" (defArgs s_Lhand) (defBody s_Lhand) (defScope s_Lhand) .none kV_Lhand dc_Lhand pm_Lhand an_Lhand cd_Lhand ct_Lhand), sl_Lhand⟩)
  (c_Lhand : PySem.W.codeIn K cd_Lhand "_law_hand" = true)
  (k_Lhand : PySem.W.keepIn K (.ref f_Lhand) = true)
  (a_Ldraw : PySem.W.nsIn K mainGlobals "_law_draw" = some (some (.ref f_Ldraw)))
  (l_Ldraw : K.lookup f_Ldraw = some ⟨oc_Ldraw, od_Ldraw, .func (PySem.W.fnOf "_law_draw" "_law_draw" (defArgs s_Ldraw) (defBody s_Ldraw) (defScope s_Ldraw) .none kV_Ldraw dc_Ldraw pm_Ldraw an_Ldraw cd_Ldraw ct_Ldraw), sl_Ldraw⟩)
  (c_Ldraw : PySem.W.codeIn K cd_Ldraw "_law_draw" = true)
  (k_Ldraw : PySem.W.keepIn K (.ref f_Ldraw) = true)
  (a_Lcouples : PySem.W.nsIn K mainGlobals "_law_couples" = some (some (.ref f_Lcouples)))
  (l_Lcouples : K.lookup f_Lcouples = some ⟨oc_Lcouples, od_Lcouples, .func (PySem.W.fnOf "_law_couples" "_law_couples" (defArgs s_Lcouples) (defBody s_Lcouples) (defScope s_Lcouples) .none kV_Lcouples dc_Lcouples pm_Lcouples an_Lcouples cd_Lcouples ct_Lcouples), sl_Lcouples⟩)
  (c_Lcouples : PySem.W.codeIn K cd_Lcouples "_law_couples" = true)
  (k_Lcouples : PySem.W.keepIn K (.ref f_Lcouples) = true)
  (a_Lis : PySem.W.nsIn K mainGlobals "_law_is" = some (some (.ref f_Lis)))
  (l_Lis : K.lookup f_Lis = some ⟨oc_Lis, od_Lis, .func (PySem.W.fnOf "_law_is" "_law_is" (defArgs s_Lis) (defBody s_Lis) (defScope s_Lis) .none kV_Lis dc_Lis pm_Lis an_Lis cd_Lis ct_Lis), sl_Lis⟩)
  (c_Lis : PySem.W.codeIn K cd_Lis "_law_is" = true)
  (k_Lis : PySem.W.keepIn K (.ref f_Lis) = true)
  (a_Lwide_sides : PySem.W.nsIn K mainGlobals "_law_wide_sides" = some (some (.ref f_Lwide_sides)))
  (l_Lwide_sides : K.lookup f_Lwide_sides = some ⟨oc_Lwide_sides, od_Lwide_sides, .func (PySem.W.fnOf "_law_wide_sides" "_law_wide_sides" (defArgs s_Lwide_sides) (defBody s_Lwide_sides) (defScope s_Lwide_sides) .none kV_Lwide_sides dc_Lwide_sides pm_Lwide_sides an_Lwide_sides cd_Lwide_sides ct_Lwide_sides), sl_Lwide_sides⟩)
  (c_Lwide_sides : PySem.W.codeIn K cd_Lwide_sides "_law_wide_sides" = true)
  (k_Lwide_sides : PySem.W.keepIn K (.ref f_Lwide_sides) = true)
  (a_Lorder : PySem.W.nsIn K mainGlobals "_law_order" = some (some (.ref f_Lorder)))
  (l_Lorder : K.lookup f_Lorder = some ⟨oc_Lorder, od_Lorder, .func (PySem.W.fnOf "_law_order" "_law_order" (defArgs s_Lorder) (defBody s_Lorder) (defScope s_Lorder) .none kV_Lorder dc_Lorder pm_Lorder an_Lorder cd_Lorder ct_Lorder), sl_Lorder⟩)
  (c_Lorder : PySem.W.codeIn K cd_Lorder "_law_order" = true)
  (k_Lorder : PySem.W.keepIn K (.ref f_Lorder) = true)
  (a_Llot_told : PySem.W.nsIn K mainGlobals "_law_lot_told" = some (some (.ref f_Llot_told)))
  (l_Llot_told : K.lookup f_Llot_told = some ⟨oc_Llot_told, od_Llot_told, .func (PySem.W.fnOf "_law_lot_told" "_law_lot_told" (defArgs s_Llot_told) (defBody s_Llot_told) (defScope s_Llot_told) .none kV_Llot_told dc_Llot_told pm_Llot_told an_Llot_told cd_Llot_told ct_Llot_told), sl_Llot_told⟩)
  (c_Llot_told : PySem.W.codeIn K cd_Llot_told "_law_lot_told" = true)
  (k_Llot_told : PySem.W.keepIn K (.ref f_Llot_told) = true)
  (a_Lcouple_told : PySem.W.nsIn K mainGlobals "_law_couple_told" = some (some (.ref f_Lcouple_told)))
  (l_Lcouple_told : K.lookup f_Lcouple_told = some ⟨oc_Lcouple_told, od_Lcouple_told, .func (PySem.W.fnOf "_law_couple_told" "_law_couple_told" (defArgs s_Lcouple_told) (defBody s_Lcouple_told) (defScope s_Lcouple_told) .none kV_Lcouple_told dc_Lcouple_told pm_Lcouple_told an_Lcouple_told cd_Lcouple_told ct_Lcouple_told), sl_Lcouple_told⟩)
  (c_Lcouple_told : PySem.W.codeIn K cd_Lcouple_told "_law_couple_told" = true)
  (k_Lcouple_told : PySem.W.keepIn K (.ref f_Lcouple_told) = true)
  (a_Lside_told : PySem.W.nsIn K mainGlobals "_law_side_told" = some (some (.ref f_Lside_told)))
  (l_Lside_told : K.lookup f_Lside_told = some ⟨oc_Lside_told, od_Lside_told, .func (PySem.W.fnOf "_law_side_told" "_law_side_told" (defArgs s_Lside_told) (defBody s_Lside_told) (defScope s_Lside_told) .none kV_Lside_told dc_Lside_told pm_Lside_told an_Lside_told cd_Lside_told ct_Lside_told), sl_Lside_told⟩)
  (c_Lside_told : PySem.W.codeIn K cd_Lside_told "_law_side_told" = true)
  (k_Lside_told : PySem.W.keepIn K (.ref f_Lside_told) = true)
  (a_Lrises : PySem.W.nsIn K mainGlobals "_law_rises" = some (some (.ref f_Lrises)))
  (l_Lrises : K.lookup f_Lrises = some ⟨oc_Lrises, od_Lrises, .func (PySem.W.fnOf "_law_rises" "_law_rises" (defArgs s_Lrises) (defBody s_Lrises) (defScope s_Lrises) .none kV_Lrises dc_Lrises pm_Lrises an_Lrises cd_Lrises ct_Lrises), sl_Lrises⟩)
  (c_Lrises : PySem.W.codeIn K cd_Lrises "_law_rises" = true)
  (k_Lrises : PySem.W.keepIn K (.ref f_Lrises) = true)
  (a_Lnumbers_right : PySem.W.nsIn K mainGlobals "_law_numbers_right" = some (some (.ref f_Lnumbers_right)))
  (l_Lnumbers_right : K.lookup f_Lnumbers_right = some ⟨oc_Lnumbers_right, od_Lnumbers_right, .func (PySem.W.fnOf "_law_numbers_right" "_law_numbers_right" (defArgs s_Lnumbers_right) (defBody s_Lnumbers_right) (defScope s_Lnumbers_right) .none kV_Lnumbers_right dc_Lnumbers_right pm_Lnumbers_right an_Lnumbers_right cd_Lnumbers_right ct_Lnumbers_right), sl_Lnumbers_right⟩)
  (c_Lnumbers_right : PySem.W.codeIn K cd_Lnumbers_right "_law_numbers_right" = true)
  (k_Lnumbers_right : PySem.W.keepIn K (.ref f_Lnumbers_right) = true)
  (a_Llots_right : PySem.W.nsIn K mainGlobals "_law_lots_right" = some (some (.ref f_Llots_right)))
  (l_Llots_right : K.lookup f_Llots_right = some ⟨oc_Llots_right, od_Llots_right, .func (PySem.W.fnOf "_law_lots_right" "_law_lots_right" (defArgs s_Llots_right) (defBody s_Llots_right) (defScope s_Llots_right) .none kV_Llots_right dc_Llots_right pm_Llots_right an_Llots_right cd_Llots_right ct_Llots_right), sl_Llots_right⟩)
  (c_Llots_right : PySem.W.codeIn K cd_Llots_right "_law_lots_right" = true)
  (k_Llots_right : PySem.W.keepIn K (.ref f_Llots_right) = true)
  (a_Lorders_right : PySem.W.nsIn K mainGlobals "_law_orders_right" = some (some (.ref f_Lorders_right)))
  (l_Lorders_right : K.lookup f_Lorders_right = some ⟨oc_Lorders_right, od_Lorders_right, .func (PySem.W.fnOf "_law_orders_right" "_law_orders_right" (defArgs s_Lorders_right) (defBody s_Lorders_right) (defScope s_Lorders_right) .none kV_Lorders_right dc_Lorders_right pm_Lorders_right an_Lorders_right cd_Lorders_right ct_Lorders_right), sl_Lorders_right⟩)
  (c_Lorders_right : PySem.W.codeIn K cd_Lorders_right "_law_orders_right" = true)
  (k_Lorders_right : PySem.W.keepIn K (.ref f_Lorders_right) = true)
  (a_law : PySem.W.nsIn K mainGlobals "law" = some (some (.ref f_law)))
  (l_law : K.lookup f_law = some ⟨oc_law, od_law, .func (PySem.W.fnOf "law" "law" (defArgs s_law) (defBody s_law) (defScope s_law) .none kV_law dc_law pm_law an_law cd_law ct_law), sl_law⟩)
  (c_law : PySem.W.codeIn K cd_law "law" = true)
  (k_law : PySem.W.keepIn K (.ref f_law) = true)
  (k_CallError : PySem.W.keepIn K (.ref C_CallError) = true)
  (b_CallError : PySem.W.subIn K (.ref C_CallError) (.type "BaseException") = some true)
  (t_CallError : PySem.W.typeIn K (.ref C_CallError) = some (.type "type"))
  (i_CallError : PySem.W.isClsIn K C_CallError = true)
  (s_CallError : PySem.W.subIn K (.ref C_CallError) (.ref C_CallError) = some true)
  (x_CallError : PySem.W.excIn K C_CallError [.type "ValueError", .type "Exception", .type "BaseException", .type "object"] "ValueError.__new__" = true)
  (k_BadCouple : PySem.W.keepIn K (.ref C_BadCouple) = true)
  (b_BadCouple : PySem.W.subIn K (.ref C_BadCouple) (.type "BaseException") = some true)
  (t_BadCouple : PySem.W.typeIn K (.ref C_BadCouple) = some (.type "type"))
  (i_BadCouple : PySem.W.isClsIn K C_BadCouple = true)
  (s_BadCouple : PySem.W.subIn K (.ref C_BadCouple) (.ref C_BadCouple) = some true)
  (x_BadCouple : PySem.W.excIn K C_BadCouple [.type "ValueError", .type "Exception", .type "BaseException", .type "object"] "ValueError.__new__" = true)
  (k_BadLot : PySem.W.keepIn K (.ref C_BadLot) = true)
  (b_BadLot : PySem.W.subIn K (.ref C_BadLot) (.type "BaseException") = some true)
  (t_BadLot : PySem.W.typeIn K (.ref C_BadLot) = some (.type "type"))
  (i_BadLot : PySem.W.isClsIn K C_BadLot = true)
  (s_BadLot : PySem.W.subIn K (.ref C_BadLot) (.ref C_BadLot) = some true)
  (x_BadLot : K.lookup C_BadLot = some (excClassObj nm_BadLot qn_BadLot C_BadLot N_BadLot bs_BadLot [.ref C_CallError, .type "ValueError", .type "Exception", .type "BaseException", .type "object"] true sn_BadLot sb_BadLot ab_BadLot co_BadLot dd_BadLot m0_BadLot m1_BadLot m2_BadLot m3_BadLot m5_BadLot "ValueError.__new__"))
  (sa_BadLot : PySem.W.findIn K (.ref C_BadLot) "__setattr__" = some (some (.builtin "object.__setattr__")))
  (ga_BadLot : PySem.W.findIn K (.ref C_BadLot) "__getattribute__" = some (some (.builtin "BaseException.__getattribute__")))
  (gg_BadLot : PySem.W.findIn K (.ref C_BadLot) "__getattr__" = some none)
  (hd_BadLot : PySem.W.hasDictIn K C_BadLot = true)
  (y_BadLot : PySem.W.typeIn K (.ref f_BadLotu_initu) = some (.type "function"))
  (n_BadLot_side : PySem.W.findIn K (.ref C_BadLot) "side" = some none)
  (k_BadSide : PySem.W.keepIn K (.ref C_BadSide) = true)
  (b_BadSide : PySem.W.subIn K (.ref C_BadSide) (.type "BaseException") = some true)
  (t_BadSide : PySem.W.typeIn K (.ref C_BadSide) = some (.type "type"))
  (i_BadSide : PySem.W.isClsIn K C_BadSide = true)
  (s_BadSide : PySem.W.subIn K (.ref C_BadSide) (.ref C_BadSide) = some true)
  (x_BadSide : PySem.W.excIn K C_BadSide [.type "ValueError", .type "Exception", .type "BaseException", .type "object"] "ValueError.__new__" = true)
  (z_ValueError : PySem.W.nsIn K mainGlobals "ValueError" = some none)
  (z_abs : PySem.W.nsIn K mainGlobals "abs" = some none)
  (z_all : PySem.W.nsIn K mainGlobals "all" = some none)
  (z_bool : PySem.W.nsIn K mainGlobals "bool" = some none)
  (z_enumerate : PySem.W.nsIn K mainGlobals "enumerate" = some none)
  (z_int : PySem.W.nsIn K mainGlobals "int" = some none)
  (z_isinstance : PySem.W.nsIn K mainGlobals "isinstance" = some none)
  (z_len : PySem.W.nsIn K mainGlobals "len" = some none)
  (z_list : PySem.W.nsIn K mainGlobals "list" = some none)
  (z_min : PySem.W.nsIn K mainGlobals "min" = some none)
  (z_range : PySem.W.nsIn K mainGlobals "range" = some none)
  (z_set : PySem.W.nsIn K mainGlobals "set" = some none)
  (z_sorted : PySem.W.nsIn K mainGlobals "sorted" = some none)
  (z_tuple : PySem.W.nsIn K mainGlobals "tuple" = some none)
  (c_EAST : PySem.W.nsIn K mainGlobals "EAST" = some (some (.int (0) t_EAST)))
  (c_WEST : PySem.W.nsIn K mainGlobals "WEST" = some (some (.int (1) t_WEST)))
  (c_STOP : PySem.W.nsIn K mainGlobals "STOP" = some (some (.int (0) t_STOP)))
  (c_LADDER_MOST : PySem.W.nsIn K mainGlobals "LADDER_MOST" = some (some (.int (6) t_LADDER_MOST)))
  (c_KINDS_MOST : PySem.W.nsIn K mainGlobals "KINDS_MOST" = some (some (.int (6) t_KINDS_MOST)))
  (c_COUPLES_MOST : PySem.W.nsIn K mainGlobals "COUPLES_MOST" = some (some (.int (12) t_COUPLES_MOST))) :
    ∃ fd : FuncData, (∀ (s : Shared) (v : Value), BindsTo s fd ⟨[v], []⟩ [("_law_script", v)]) ∧ ∀ base : Heap, K.In base → base.Ns mainGlobals mg → FnOk P w K mg base CX0 7 fa fd ["_law_script"] (sp_law K) := by
  have e : f_law = fa := Value.ref.inj (Option.some.inj ((PySem.W.mg_of X G a_law).symm.trans hfa))
  subst e
  have F_BadLotu_initu := fun_mk (st := s_BadLotu_initu) l_BadLotu_initu c_BadLotu_initu k_BadLotu_initu
  have F_is_whole : FunD K "is_whole" "is_whole" (defArgs s_is_whole) (defBody s_is_whole) (defScope s_is_whole) [.non, .non] [] f_is_whole (PySem.W.fnOf "is_whole" "is_whole" (defArgs s_is_whole) (defBody s_is_whole) (defScope s_is_whole) (.ref q_is_whole) kV_is_whole dc_is_whole pm_is_whole an_is_whole cd_is_whole ct_is_whole) := ⟨⟨oc_is_whole, od_is_whole, _, kV_is_whole, dc_is_whole, pm_is_whole, an_is_whole, cd_is_whole, ct_is_whole, sl_is_whole, rfl, l_is_whole, c_is_whole, .inr ⟨by simp, q_is_whole, _, [Value.none, Value.none], qn_is_whole, rfl, t_is_whole, rfl, (.cons rfl (.cons rfl .nil))⟩, .inl rfl⟩, k_is_whole⟩
  have F_is_sequence := fun_mk (st := s_is_sequence) l_is_sequence c_is_sequence k_is_sequence
  have F_other_side := fun_mk (st := s_other_side) l_other_side c_other_side k_other_side
  have F_check_side := fun_mk (st := s_check_side) l_check_side c_check_side k_check_side
  have F_are_sides := fun_mk (st := s_are_sides) l_are_sides c_are_sides k_are_sides
  have F_couples_of := fun_mk (st := s_couples_of) l_couples_of c_couples_of k_couples_of
  have F_check_couple := fun_mk (st := s_check_couple) l_check_couple c_check_couple k_check_couple
  have F_are_kinds := fun_mk (st := s_are_kinds) l_are_kinds c_are_kinds k_are_kinds
  have F_is_lot := fun_mk (st := s_is_lot) l_is_lot c_is_lot k_is_lot
  have F_check_lot := fun_mk (st := s_check_lot) l_check_lot c_check_lot k_check_lot
  have F_is_order := fun_mk (st := s_is_order) l_is_order c_is_order k_is_order
  have F_Lmix := fun_mk (st := s_Lmix) l_Lmix c_Lmix k_Lmix
  have F_Lhand := fun_mk (st := s_Lhand) l_Lhand c_Lhand k_Lhand
  have F_Ldraw := fun_mk (st := s_Ldraw) l_Ldraw c_Ldraw k_Ldraw
  have F_Lcouples := fun_mk (st := s_Lcouples) l_Lcouples c_Lcouples k_Lcouples
  have F_Lis := fun_mk (st := s_Lis) l_Lis c_Lis k_Lis
  have F_Lwide_sides := fun_mk (st := s_Lwide_sides) l_Lwide_sides c_Lwide_sides k_Lwide_sides
  have F_Lorder := fun_mk (st := s_Lorder) l_Lorder c_Lorder k_Lorder
  have F_Llot_told := fun_mk (st := s_Llot_told) l_Llot_told c_Llot_told k_Llot_told
  have F_Lcouple_told := fun_mk (st := s_Lcouple_told) l_Lcouple_told c_Lcouple_told k_Lcouple_told
  have F_Lside_told := fun_mk (st := s_Lside_told) l_Lside_told c_Lside_told k_Lside_told
  have F_Lrises := fun_mk (st := s_Lrises) l_Lrises c_Lrises k_Lrises
  have F_Lnumbers_right := fun_mk (st := s_Lnumbers_right) l_Lnumbers_right c_Lnumbers_right k_Lnumbers_right
  have F_Llots_right := fun_mk (st := s_Llots_right) l_Llots_right c_Llots_right k_Llots_right
  have F_Lorders_right := fun_mk (st := s_Lorders_right) l_Lorders_right c_Lorders_right k_Lorders_right
  have F_law := fun_mk (st := s_law) l_law c_law k_law
  let T : Tx := {
    f_BadLotu_initu := f_BadLotu_initu,
    d_BadLotu_initu := PySem.W.fnOf "__init__" "BadLot.__init__" (defArgs s_BadLotu_initu) (defBody s_BadLotu_initu) (defScope s_BadLotu_initu) .none kV_BadLotu_initu dc_BadLotu_initu pm_BadLotu_initu an_BadLotu_initu cd_BadLotu_initu ct_BadLotu_initu,
    f_is_whole := f_is_whole,
    d_is_whole := PySem.W.fnOf "is_whole" "is_whole" (defArgs s_is_whole) (defBody s_is_whole) (defScope s_is_whole) (.ref q_is_whole) kV_is_whole dc_is_whole pm_is_whole an_is_whole cd_is_whole ct_is_whole,
    e1_is_whole := [Value.none],
    e2_is_whole := [Value.none, Value.none],
    f_is_sequence := f_is_sequence,
    d_is_sequence := PySem.W.fnOf "is_sequence" "is_sequence" (defArgs s_is_sequence) (defBody s_is_sequence) (defScope s_is_sequence) .none kV_is_sequence dc_is_sequence pm_is_sequence an_is_sequence cd_is_sequence ct_is_sequence,
    f_other_side := f_other_side,
    d_other_side := PySem.W.fnOf "other_side" "other_side" (defArgs s_other_side) (defBody s_other_side) (defScope s_other_side) .none kV_other_side dc_other_side pm_other_side an_other_side cd_other_side ct_other_side,
    f_check_side := f_check_side,
    d_check_side := PySem.W.fnOf "check_side" "check_side" (defArgs s_check_side) (defBody s_check_side) (defScope s_check_side) .none kV_check_side dc_check_side pm_check_side an_check_side cd_check_side ct_check_side,
    f_are_sides := f_are_sides,
    d_are_sides := PySem.W.fnOf "are_sides" "are_sides" (defArgs s_are_sides) (defBody s_are_sides) (defScope s_are_sides) .none kV_are_sides dc_are_sides pm_are_sides an_are_sides cd_are_sides ct_are_sides,
    f_couples_of := f_couples_of,
    d_couples_of := PySem.W.fnOf "couples_of" "couples_of" (defArgs s_couples_of) (defBody s_couples_of) (defScope s_couples_of) .none kV_couples_of dc_couples_of pm_couples_of an_couples_of cd_couples_of ct_couples_of,
    f_check_couple := f_check_couple,
    d_check_couple := PySem.W.fnOf "check_couple" "check_couple" (defArgs s_check_couple) (defBody s_check_couple) (defScope s_check_couple) .none kV_check_couple dc_check_couple pm_check_couple an_check_couple cd_check_couple ct_check_couple,
    f_are_kinds := f_are_kinds,
    d_are_kinds := PySem.W.fnOf "are_kinds" "are_kinds" (defArgs s_are_kinds) (defBody s_are_kinds) (defScope s_are_kinds) .none kV_are_kinds dc_are_kinds pm_are_kinds an_are_kinds cd_are_kinds ct_are_kinds,
    f_is_lot := f_is_lot,
    d_is_lot := PySem.W.fnOf "is_lot" "is_lot" (defArgs s_is_lot) (defBody s_is_lot) (defScope s_is_lot) .none kV_is_lot dc_is_lot pm_is_lot an_is_lot cd_is_lot ct_is_lot,
    f_check_lot := f_check_lot,
    d_check_lot := PySem.W.fnOf "check_lot" "check_lot" (defArgs s_check_lot) (defBody s_check_lot) (defScope s_check_lot) .none kV_check_lot dc_check_lot pm_check_lot an_check_lot cd_check_lot ct_check_lot,
    f_is_order := f_is_order,
    d_is_order := PySem.W.fnOf "is_order" "is_order" (defArgs s_is_order) (defBody s_is_order) (defScope s_is_order) .none kV_is_order dc_is_order pm_is_order an_is_order cd_is_order ct_is_order,
    f_Lmix := f_Lmix,
    d_Lmix := PySem.W.fnOf "_law_mix" "_law_mix" (defArgs s_Lmix) (defBody s_Lmix) (defScope s_Lmix) .none kV_Lmix dc_Lmix pm_Lmix an_Lmix cd_Lmix ct_Lmix,
    f_Lhand := f_Lhand,
    d_Lhand := PySem.W.fnOf "_law_hand" "_law_hand" (defArgs s_Lhand) (defBody s_Lhand) (defScope s_Lhand) .none kV_Lhand dc_Lhand pm_Lhand an_Lhand cd_Lhand ct_Lhand,
    f_Ldraw := f_Ldraw,
    d_Ldraw := PySem.W.fnOf "_law_draw" "_law_draw" (defArgs s_Ldraw) (defBody s_Ldraw) (defScope s_Ldraw) .none kV_Ldraw dc_Ldraw pm_Ldraw an_Ldraw cd_Ldraw ct_Ldraw,
    f_Lcouples := f_Lcouples,
    d_Lcouples := PySem.W.fnOf "_law_couples" "_law_couples" (defArgs s_Lcouples) (defBody s_Lcouples) (defScope s_Lcouples) .none kV_Lcouples dc_Lcouples pm_Lcouples an_Lcouples cd_Lcouples ct_Lcouples,
    f_Lis := f_Lis,
    d_Lis := PySem.W.fnOf "_law_is" "_law_is" (defArgs s_Lis) (defBody s_Lis) (defScope s_Lis) .none kV_Lis dc_Lis pm_Lis an_Lis cd_Lis ct_Lis,
    f_Lwide_sides := f_Lwide_sides,
    d_Lwide_sides := PySem.W.fnOf "_law_wide_sides" "_law_wide_sides" (defArgs s_Lwide_sides) (defBody s_Lwide_sides) (defScope s_Lwide_sides) .none kV_Lwide_sides dc_Lwide_sides pm_Lwide_sides an_Lwide_sides cd_Lwide_sides ct_Lwide_sides,
    f_Lorder := f_Lorder,
    d_Lorder := PySem.W.fnOf "_law_order" "_law_order" (defArgs s_Lorder) (defBody s_Lorder) (defScope s_Lorder) .none kV_Lorder dc_Lorder pm_Lorder an_Lorder cd_Lorder ct_Lorder,
    f_Llot_told := f_Llot_told,
    d_Llot_told := PySem.W.fnOf "_law_lot_told" "_law_lot_told" (defArgs s_Llot_told) (defBody s_Llot_told) (defScope s_Llot_told) .none kV_Llot_told dc_Llot_told pm_Llot_told an_Llot_told cd_Llot_told ct_Llot_told,
    f_Lcouple_told := f_Lcouple_told,
    d_Lcouple_told := PySem.W.fnOf "_law_couple_told" "_law_couple_told" (defArgs s_Lcouple_told) (defBody s_Lcouple_told) (defScope s_Lcouple_told) .none kV_Lcouple_told dc_Lcouple_told pm_Lcouple_told an_Lcouple_told cd_Lcouple_told ct_Lcouple_told,
    f_Lside_told := f_Lside_told,
    d_Lside_told := PySem.W.fnOf "_law_side_told" "_law_side_told" (defArgs s_Lside_told) (defBody s_Lside_told) (defScope s_Lside_told) .none kV_Lside_told dc_Lside_told pm_Lside_told an_Lside_told cd_Lside_told ct_Lside_told,
    f_Lrises := f_Lrises,
    d_Lrises := PySem.W.fnOf "_law_rises" "_law_rises" (defArgs s_Lrises) (defBody s_Lrises) (defScope s_Lrises) .none kV_Lrises dc_Lrises pm_Lrises an_Lrises cd_Lrises ct_Lrises,
    f_Lnumbers_right := f_Lnumbers_right,
    d_Lnumbers_right := PySem.W.fnOf "_law_numbers_right" "_law_numbers_right" (defArgs s_Lnumbers_right) (defBody s_Lnumbers_right) (defScope s_Lnumbers_right) .none kV_Lnumbers_right dc_Lnumbers_right pm_Lnumbers_right an_Lnumbers_right cd_Lnumbers_right ct_Lnumbers_right,
    f_Llots_right := f_Llots_right,
    d_Llots_right := PySem.W.fnOf "_law_lots_right" "_law_lots_right" (defArgs s_Llots_right) (defBody s_Llots_right) (defScope s_Llots_right) .none kV_Llots_right dc_Llots_right pm_Llots_right an_Llots_right cd_Llots_right ct_Llots_right,
    f_Lorders_right := f_Lorders_right,
    d_Lorders_right := PySem.W.fnOf "_law_orders_right" "_law_orders_right" (defArgs s_Lorders_right) (defBody s_Lorders_right) (defScope s_Lorders_right) .none kV_Lorders_right dc_Lorders_right pm_Lorders_right an_Lorders_right cd_Lorders_right ct_Lorders_right,
    f_law := f_law,
    d_law := PySem.W.fnOf "law" "law" (defArgs s_law) (defBody s_law) (defScope s_law) .none kV_law dc_law pm_law an_law cd_law ct_law,
    C_CallError := C_CallError,
    C_BadCouple := C_BadCouple,
    C_BadLot := C_BadLot,
    C_BadSide := C_BadSide,
    t_EAST := t_EAST,
    t_WEST := t_WEST,
    t_STOP := t_STOP,
    t_LADDER_MOST := t_LADDER_MOST,
    t_KINDS_MOST := t_KINDS_MOST,
    t_COUPLES_MOST := t_COUPLES_MOST }
  have O : Ok K mg T := {
    F_BadLotu_initu := F_BadLotu_initu,
    b_BadLotu_initu := F_BadLotu_initu.binds (ps := ["self", "side"]) fun _ _ _ _ _ _ us hl => match us, hl with | [_, _], _ => rfl,
    F_is_whole := F_is_whole,
    b_is_whole := Jv.bindsD (K := K) (T := q_is_whole) (m := 3) t_is_whole rfl rfl fun us hl => match us, hl with | [_, _, _], _ => ⟨_, rfl, rfl⟩,
    b1_is_whole := ⟨(.cons rfl .nil), Jv.bindsD (K := K) (T := q_is_whole) (m := 2) t_is_whole rfl rfl fun us hl => match us, hl with | [_, _], _ => ⟨_, rfl, rfl⟩⟩,
    b2_is_whole := ⟨(.cons rfl (.cons rfl .nil)), Jv.bindsD (K := K) (T := q_is_whole) (m := 1) t_is_whole rfl rfl fun us hl => match us, hl with | [_], _ => ⟨_, rfl, rfl⟩⟩,
    m_is_whole := PySem.W.mg_of X G a_is_whole,
    F_is_sequence := F_is_sequence,
    b_is_sequence := F_is_sequence.binds (ps := ["thing"]) fun _ _ _ _ _ _ us hl => match us, hl with | [_], _ => rfl,
    m_is_sequence := PySem.W.mg_of X G a_is_sequence,
    F_other_side := F_other_side,
    b_other_side := F_other_side.binds (ps := ["side"]) fun _ _ _ _ _ _ us hl => match us, hl with | [_], _ => rfl,
    m_other_side := PySem.W.mg_of X G a_other_side,
    F_check_side := F_check_side,
    b_check_side := F_check_side.binds (ps := ["side"]) fun _ _ _ _ _ _ us hl => match us, hl with | [_], _ => rfl,
    m_check_side := PySem.W.mg_of X G a_check_side,
    F_are_sides := F_are_sides,
    b_are_sides := F_are_sides.binds (ps := ["thing"]) fun _ _ _ _ _ _ us hl => match us, hl with | [_], _ => rfl,
    m_are_sides := PySem.W.mg_of X G a_are_sides,
    F_couples_of := F_couples_of,
    b_couples_of := F_couples_of.binds (ps := ["sides"]) fun _ _ _ _ _ _ us hl => match us, hl with | [_], _ => rfl,
    m_couples_of := PySem.W.mg_of X G a_couples_of,
    F_check_couple := F_check_couple,
    b_check_couple := F_check_couple.binds (ps := ["sides", "couple"]) fun _ _ _ _ _ _ us hl => match us, hl with | [_, _], _ => rfl,
    m_check_couple := PySem.W.mg_of X G a_check_couple,
    F_are_kinds := F_are_kinds,
    b_are_kinds := F_are_kinds.binds (ps := ["thing", "kinds"]) fun _ _ _ _ _ _ us hl => match us, hl with | [_, _], _ => rfl,
    m_are_kinds := PySem.W.mg_of X G a_are_kinds,
    F_is_lot := F_is_lot,
    b_is_lot := F_is_lot.binds (ps := ["thing", "kinds"]) fun _ _ _ _ _ _ us hl => match us, hl with | [_, _], _ => rfl,
    m_is_lot := PySem.W.mg_of X G a_is_lot,
    F_check_lot := F_check_lot,
    b_check_lot := F_check_lot.binds (ps := ["lot", "kinds", "side"]) fun _ _ _ _ _ _ us hl => match us, hl with | [_, _, _], _ => rfl,
    m_check_lot := PySem.W.mg_of X G a_check_lot,
    F_is_order := F_is_order,
    b_is_order := F_is_order.binds (ps := ["thing", "many"]) fun _ _ _ _ _ _ us hl => match us, hl with | [_, _], _ => rfl,
    m_is_order := PySem.W.mg_of X G a_is_order,
    F_Lmix := F_Lmix,
    b_Lmix := F_Lmix.binds (ps := ["_law_number", "_law_turn"]) fun _ _ _ _ _ _ us hl => match us, hl with | [_, _], _ => rfl,
    m_Lmix := PySem.W.mg_of X G a_Lmix,
    F_Lhand := F_Lhand,
    b_Lhand := F_Lhand.binds (ps := ["_law_script"]) fun _ _ _ _ _ _ us hl => match us, hl with | [_], _ => rfl,
    m_Lhand := PySem.W.mg_of X G a_Lhand,
    F_Ldraw := F_Ldraw,
    b_Ldraw := F_Ldraw.binds (ps := ["_law_hand_here", "_law_many"]) fun _ _ _ _ _ _ us hl => match us, hl with | [_, _], _ => rfl,
    m_Ldraw := PySem.W.mg_of X G a_Ldraw,
    F_Lcouples := F_Lcouples,
    b_Lcouples := F_Lcouples.binds (ps := ["_law_sides"]) fun _ _ _ _ _ _ us hl => match us, hl with | [_], _ => rfl,
    m_Lcouples := PySem.W.mg_of X G a_Lcouples,
    F_Lis := F_Lis,
    b_Lis := F_Lis.binds (ps := ["_law_thing", "_law_due"]) fun _ _ _ _ _ _ us hl => match us, hl with | [_, _], _ => rfl,
    m_Lis := PySem.W.mg_of X G a_Lis,
    F_Lwide_sides := F_Lwide_sides,
    b_Lwide_sides := F_Lwide_sides.binds (ps := ["_law_hand_here"]) fun _ _ _ _ _ _ us hl => match us, hl with | [_], _ => rfl,
    m_Lwide_sides := PySem.W.mg_of X G a_Lwide_sides,
    F_Lorder := F_Lorder,
    b_Lorder := F_Lorder.binds (ps := ["_law_hand_here", "_law_many"]) fun _ _ _ _ _ _ us hl => match us, hl with | [_, _], _ => rfl,
    m_Lorder := PySem.W.mg_of X G a_Lorder,
    F_Llot_told := F_Llot_told,
    b_Llot_told := F_Llot_told.binds (ps := ["_law_lot", "_law_kinds", "_law_side"]) fun _ _ _ _ _ _ us hl => match us, hl with | [_, _, _], _ => rfl,
    m_Llot_told := PySem.W.mg_of X G a_Llot_told,
    F_Lcouple_told := F_Lcouple_told,
    b_Lcouple_told := F_Lcouple_told.binds (ps := ["_law_sides", "_law_couple"]) fun _ _ _ _ _ _ us hl => match us, hl with | [_, _], _ => rfl,
    m_Lcouple_told := PySem.W.mg_of X G a_Lcouple_told,
    F_Lside_told := F_Lside_told,
    b_Lside_told := F_Lside_told.binds (ps := ["_law_side"]) fun _ _ _ _ _ _ us hl => match us, hl with | [_], _ => rfl,
    m_Lside_told := PySem.W.mg_of X G a_Lside_told,
    F_Lrises := F_Lrises,
    b_Lrises := F_Lrises.binds (ps := ["_law_numbers", "_law_kinds"]) fun _ _ _ _ _ _ us hl => match us, hl with | [_, _], _ => rfl,
    m_Lrises := PySem.W.mg_of X G a_Lrises,
    F_Lnumbers_right := F_Lnumbers_right,
    b_Lnumbers_right := F_Lnumbers_right.binds (ps := ["_law_hand_here"]) fun _ _ _ _ _ _ us hl => match us, hl with | [_], _ => rfl,
    m_Lnumbers_right := PySem.W.mg_of X G a_Lnumbers_right,
    F_Llots_right := F_Llots_right,
    b_Llots_right := F_Llots_right.binds (ps := ["_law_hand_here"]) fun _ _ _ _ _ _ us hl => match us, hl with | [_], _ => rfl,
    m_Llots_right := PySem.W.mg_of X G a_Llots_right,
    F_Lorders_right := F_Lorders_right,
    b_Lorders_right := F_Lorders_right.binds (ps := ["_law_hand_here"]) fun _ _ _ _ _ _ us hl => match us, hl with | [_], _ => rfl,
    m_Lorders_right := PySem.W.mg_of X G a_Lorders_right,
    F_law := F_law,
    b_law := F_law.binds (ps := ["_law_script"]) fun _ _ _ _ _ _ us hl => match us, hl with | [_], _ => rfl,
    m_law := PySem.W.mg_of X G a_law,
    m_CallError := PySem.W.mg_of X G a_CallError,
    e_CallError := ⟨x_CallError, k_CallError, b_CallError, t_CallError, i_CallError, s_CallError⟩,
    m_BadCouple := PySem.W.mg_of X G a_BadCouple,
    e_BadCouple := ⟨x_BadCouple, k_BadCouple, b_BadCouple, t_BadCouple, i_BadCouple, s_BadCouple⟩,
    m_BadLot := PySem.W.mg_of X G a_BadLot,
    x_BadLot := ⟨⟨⟨nm_BadLot, qn_BadLot, N_BadLot, bs_BadLot, _, sn_BadLot, sb_BadLot, ab_BadLot, co_BadLot, dd_BadLot, m0_BadLot, m1_BadLot, m2_BadLot, m3_BadLot, m5_BadLot, x_BadLot, rfl⟩, sa_BadLot, b_BadLot, t_BadLot, k_BadLot⟩, a_BadLotu_initu, y_BadLot, i_BadLot, s_BadLot, ⟨ga_BadLot, gg_BadLot, b_BadLot, hd_BadLot⟩⟩,
    n_BadLot_side := n_BadLot_side,
    m_BadSide := PySem.W.mg_of X G a_BadSide,
    e_BadSide := ⟨x_BadSide, k_BadSide, b_BadSide, t_BadSide, i_BadSide, s_BadSide⟩,
    z_ValueError := PySem.W.mg_none_of X G z_ValueError,
    z_abs := PySem.W.mg_none_of X G z_abs,
    z_all := PySem.W.mg_none_of X G z_all,
    z_bool := PySem.W.mg_none_of X G z_bool,
    z_enumerate := PySem.W.mg_none_of X G z_enumerate,
    z_int := PySem.W.mg_none_of X G z_int,
    z_isinstance := PySem.W.mg_none_of X G z_isinstance,
    z_len := PySem.W.mg_none_of X G z_len,
    z_list := PySem.W.mg_none_of X G z_list,
    z_min := PySem.W.mg_none_of X G z_min,
    z_range := PySem.W.mg_none_of X G z_range,
    z_set := PySem.W.mg_none_of X G z_set,
    z_sorted := PySem.W.mg_none_of X G z_sorted,
    z_tuple := PySem.W.mg_none_of X G z_tuple,
    c_EAST := PySem.W.mg_of X G c_EAST,
    c_WEST := PySem.W.mg_of X G c_WEST,
    c_STOP := PySem.W.mg_of X G c_STOP,
    c_LADDER_MOST := PySem.W.mg_of X G c_LADDER_MOST,
    c_KINDS_MOST := PySem.W.mg_of X G c_KINDS_MOST,
    c_COUPLES_MOST := PySem.W.mg_of X G c_COUPLES_MOST,
    kb1_high_is_whole := Jv.kbD (K := K) (T := q_is_whole) t_is_whole rfl (fun us ws h1 h2 => match us, h1, ws, h2 with | [_], _, [_], _ => ⟨_, rfl, rfl⟩) fun r1 r2 => (Vals.append (Vals.append r1 (.cons rfl .nil)) r2) }
  exact ⟨T.d_law, fun s v => .of_eq rfl, fun base _ _ => ok_law T O⟩
end K01
open PySem PySem.W PyProof.Rows
set_option maxHeartbeats 0 in
theorem PySem.Challenge.cw_risingcalls_k01_whole_basics_by_all_smal_holds : PySem.Challenge.rw_risingcalls_k01_whole_basics_by_all_smal.Holds := by
  w_on; o_law; k_head; (case hw => w_witness2)
  k_fill
  refine L2.walk_of (l := PySem.Challenge.rw_risingcalls_k01_whole_basics_by_all_smal) (n := 63) (k := 7) (x := "_law_script") (CX := fun _ => L2.CX0) (sp := fun w => K01.sp_law _) rfl (by decide) rfl ⟨rfl, by decide, by decide⟩ (fun w h Y => PySem.W.kIn_of Y) ?F (fun _ _ a ns hl _ hS => ⟨a, ns, rfl, hS, hl, fun _ => rfl⟩) (fun _ _ _ _ _ h => h)
  case F =>
    intro w mg fa h KX G hmg
    refine' K01.all_mk KX G hmg ?a_CallError ?a_BadCouple ?a_BadLot ?a_BadSide ?a_BadLotu_initu ?l_BadLotu_initu ?c_BadLotu_initu ?k_BadLotu_initu ?a_is_whole ?l_is_whole ?c_is_whole ?k_is_whole ?t_is_whole ?a_is_sequence ?l_is_sequence ?c_is_sequence ?k_is_sequence ?a_other_side ?l_other_side ?c_other_side ?k_other_side ?a_check_side ?l_check_side ?c_check_side ?k_check_side ?a_are_sides ?l_are_sides ?c_are_sides ?k_are_sides ?a_couples_of ?l_couples_of ?c_couples_of ?k_couples_of ?a_check_couple ?l_check_couple ?c_check_couple ?k_check_couple ?a_are_kinds ?l_are_kinds ?c_are_kinds ?k_are_kinds ?a_is_lot ?l_is_lot ?c_is_lot ?k_is_lot ?a_check_lot ?l_check_lot ?c_check_lot ?k_check_lot ?a_is_order ?l_is_order ?c_is_order ?k_is_order ?a_Lmix ?l_Lmix ?c_Lmix ?k_Lmix ?a_Lhand ?l_Lhand ?c_Lhand ?k_Lhand ?a_Ldraw ?l_Ldraw ?c_Ldraw ?k_Ldraw ?a_Lcouples ?l_Lcouples ?c_Lcouples ?k_Lcouples ?a_Lis ?l_Lis ?c_Lis ?k_Lis ?a_Lwide_sides ?l_Lwide_sides ?c_Lwide_sides ?k_Lwide_sides ?a_Lorder ?l_Lorder ?c_Lorder ?k_Lorder ?a_Llot_told ?l_Llot_told ?c_Llot_told ?k_Llot_told ?a_Lcouple_told ?l_Lcouple_told ?c_Lcouple_told ?k_Lcouple_told ?a_Lside_told ?l_Lside_told ?c_Lside_told ?k_Lside_told ?a_Lrises ?l_Lrises ?c_Lrises ?k_Lrises ?a_Lnumbers_right ?l_Lnumbers_right ?c_Lnumbers_right ?k_Lnumbers_right ?a_Llots_right ?l_Llots_right ?c_Llots_right ?k_Llots_right ?a_Lorders_right ?l_Lorders_right ?c_Lorders_right ?k_Lorders_right ?a_law ?l_law ?c_law ?k_law ?k_CallError ?b_CallError ?t_CallError ?i_CallError ?s_CallError ?x_CallError ?k_BadCouple ?b_BadCouple ?t_BadCouple ?i_BadCouple ?s_BadCouple ?x_BadCouple ?k_BadLot ?b_BadLot ?t_BadLot ?i_BadLot ?s_BadLot ?x_BadLot ?sa_BadLot ?ga_BadLot ?gg_BadLot ?hd_BadLot ?y_BadLot ?n_BadLot_side ?k_BadSide ?b_BadSide ?t_BadSide ?i_BadSide ?s_BadSide ?x_BadSide ?z_ValueError ?z_abs ?z_all ?z_bool ?z_enumerate ?z_int ?z_isinstance ?z_len ?z_list ?z_min ?z_range ?z_set ?z_sorted ?z_tuple ?c_EAST ?c_WEST ?c_STOP ?c_LADDER_MOST ?c_KINDS_MOST ?c_COUPLES_MOST

    (case a_CallError => k_is)
    (case a_BadCouple => k_is)
    (case a_BadLot => k_is)
    (case a_BadSide => k_is)
    (case a_BadLotu_initu => k_is)
    (case l_BadLotu_initu => k_is)
    (case c_BadLotu_initu => k_is)
    (case k_BadLotu_initu => k_is)
    (case a_is_whole => k_is)
    (case l_is_whole => k_is)
    (case c_is_whole => k_is)
    (case k_is_whole => k_is)
    (case t_is_whole => k_is)
    (case a_is_sequence => k_is)
    (case l_is_sequence => k_is)
    (case c_is_sequence => k_is)
    (case k_is_sequence => k_is)
    (case a_other_side => k_is)
    (case l_other_side => k_is)
    (case c_other_side => k_is)
    (case k_other_side => k_is)
    (case a_check_side => k_is)
    (case l_check_side => k_is)
    (case c_check_side => k_is)
    (case k_check_side => k_is)
    (case a_are_sides => k_is)
    (case l_are_sides => k_is)
    (case c_are_sides => k_is)
    (case k_are_sides => k_is)
    (case a_couples_of => k_is)
    (case l_couples_of => k_is)
    (case c_couples_of => k_is)
    (case k_couples_of => k_is)
    (case a_check_couple => k_is)
    (case l_check_couple => k_is)
    (case c_check_couple => k_is)
    (case k_check_couple => k_is)
    (case a_are_kinds => k_is)
    (case l_are_kinds => k_is)
    (case c_are_kinds => k_is)
    (case k_are_kinds => k_is)
    (case a_is_lot => k_is)
    (case l_is_lot => k_is)
    (case c_is_lot => k_is)
    (case k_is_lot => k_is)
    (case a_check_lot => k_is)
    (case l_check_lot => k_is)
    (case c_check_lot => k_is)
    (case k_check_lot => k_is)
    (case a_is_order => k_is)
    (case l_is_order => k_is)
    (case c_is_order => k_is)
    (case k_is_order => k_is)
    (case a_Lmix => k_is)
    (case l_Lmix => k_is)
    (case c_Lmix => k_is)
    (case k_Lmix => k_is)
    (case a_Lhand => k_is)
    (case l_Lhand => k_is)
    (case c_Lhand => k_is)
    (case k_Lhand => k_is)
    (case a_Ldraw => k_is)
    (case l_Ldraw => k_is)
    (case c_Ldraw => k_is)
    (case k_Ldraw => k_is)
    (case a_Lcouples => k_is)
    (case l_Lcouples => k_is)
    (case c_Lcouples => k_is)
    (case k_Lcouples => k_is)
    (case a_Lis => k_is)
    (case l_Lis => k_is)
    (case c_Lis => k_is)
    (case k_Lis => k_is)
    (case a_Lwide_sides => k_is)
    (case l_Lwide_sides => k_is)
    (case c_Lwide_sides => k_is)
    (case k_Lwide_sides => k_is)
    (case a_Lorder => k_is)
    (case l_Lorder => k_is)
    (case c_Lorder => k_is)
    (case k_Lorder => k_is)
    (case a_Llot_told => k_is)
    (case l_Llot_told => k_is)
    (case c_Llot_told => k_is)
    (case k_Llot_told => k_is)
    (case a_Lcouple_told => k_is)
    (case l_Lcouple_told => k_is)
    (case c_Lcouple_told => k_is)
    (case k_Lcouple_told => k_is)
    (case a_Lside_told => k_is)
    (case l_Lside_told => k_is)
    (case c_Lside_told => k_is)
    (case k_Lside_told => k_is)
    (case a_Lrises => k_is)
    (case l_Lrises => k_is)
    (case c_Lrises => k_is)
    (case k_Lrises => k_is)
    (case a_Lnumbers_right => k_is)
    (case l_Lnumbers_right => k_is)
    (case c_Lnumbers_right => k_is)
    (case k_Lnumbers_right => k_is)
    (case a_Llots_right => k_is)
    (case l_Llots_right => k_is)
    (case c_Llots_right => k_is)
    (case k_Llots_right => k_is)
    (case a_Lorders_right => k_is)
    (case l_Lorders_right => k_is)
    (case c_Lorders_right => k_is)
    (case k_Lorders_right => k_is)
    (case a_law => k_is)
    (case l_law => k_is)
    (case c_law => k_is)
    (case k_law => k_is)
    (case k_CallError => k_is)
    (case b_CallError => k_is)
    (case t_CallError => k_is)
    (case i_CallError => k_is)
    (case s_CallError => first | rfl | k_is)
    (case x_CallError => k_exc)
    (case k_BadCouple => k_is)
    (case b_BadCouple => k_is)
    (case t_BadCouple => k_is)
    (case i_BadCouple => k_is)
    (case s_BadCouple => first | rfl | k_is)
    (case x_BadCouple => k_exc)
    (case k_BadLot => k_is)
    (case b_BadLot => k_is)
    (case t_BadLot => k_is)
    (case i_BadLot => k_is)
    (case s_BadLot => first | rfl | k_is)
    (case x_BadLot => k_is)
    (case sa_BadLot => k_is)
    (case ga_BadLot => k_is)
    (case gg_BadLot => k_is)
    (case hd_BadLot => k_is)
    (case y_BadLot => k_is)
    (case n_BadLot_side => k_is)
    (case k_BadSide => k_is)
    (case b_BadSide => k_is)
    (case t_BadSide => k_is)
    (case i_BadSide => k_is)
    (case s_BadSide => first | rfl | k_is)
    (case x_BadSide => k_exc)
    (case z_ValueError => k_is)
    (case z_abs => k_is)
    (case z_all => k_is)
    (case z_bool => k_is)
    (case z_enumerate => k_is)
    (case z_int => k_is)
    (case z_isinstance => k_is)
    (case z_len => k_is)
    (case z_list => k_is)
    (case z_min => k_is)
    (case z_range => k_is)
    (case z_set => k_is)
    (case z_sorted => k_is)
    (case z_tuple => k_is)
    (case c_EAST => k_is)
    (case c_WEST => k_is)
    (case c_STOP => k_is)
    (case c_LADDER_MOST => k_is)
    (case c_KINDS_MOST => k_is)
    (case c_COUPLES_MOST => k_is)

