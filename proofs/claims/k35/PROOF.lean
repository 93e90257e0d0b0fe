import PyProof.Rows.All
import Wide.All
import OpenK.AllK
import Wide.FinOn
import PyProof.EqAt
import PyProof.EqKinds
import PyProof.TupleCall
import HandS.ForMost
import HandS.ForExc
import HandS.Wide
import HandS.IsInst
import HandS.SortInts
import HandS.Strs
import HandS.SetFor
import HandS.Conv
import HandS.Small
import HandS.Defaults
import HandS.Walk
import HandS.Flow
import HandS.Codes
import HandS.ExcInit
import HandS.ExcField
import HandS.Style
import HandS.TryMany
import PySem.Challenge.RW_risingcalls_k35_whole_counts_within_ends
import HandS.TupAny
import HandS.Strs
import HandS.Lambda
import HandS.EndOwn
import KE.KExcIs
import KE.KTupSum
import PyProof.SumAny
import PyProof.ReprRoads
import PyProof.ReprLen
set_option Elab.async false
set_option linter.all false
set_option maxRecDepth 100000
set_option maxHeartbeats 2000000

/-! ### my words for readings: one lemma a construct, by the head of the reading -/
namespace Jv
open PySem PySem.Spec PyProof.Rows L2
section
variable {K : PySem.W.Frag} {σ : L2.St} {H : Hp} {D : Ends} {t u : TS} {te ta tb tc : TE} {g : TG} {tt tu : TT} {tA : TA} {i : Nat} {v x y z : V} {Q : VK} {R : Bool → Hp → Prop}
theorem r_seq (h : t { D with nx := u D } σ H) : tSeq t u D σ H := h
theorem r_asg (h : te σ H fun x H1 => g x σ H1 D.nx) : tAsg te g D σ H := h
theorem r_gn {Q : L2.St → Hp → Prop} (h : Q (σ.set i (some v)) H) : gName i v σ H Q := h
theorem r_ret (h : te σ H D.rt) : tRet te D σ H := h
theorem r_retN (h : D.rt .non H) : tRetN D σ H := h
theorem r_drop (h : te σ H fun _ H1 => D.nx σ H1) : tDrop te D σ H := h
theorem r_if (h : tt σ H fun b H1 => if b = true then t D σ H1 else u D σ H1) : tIfS tt t u D σ H := h
theorem r_next (h : D.nx σ H) : tNext D σ H := h
theorem r_brk (h : D.bk σ H) : tBreak D σ H := h
theorem r_cont (h : D.ct σ H) : tCont D σ H := h
theorem r_var (h : σ[i]? = some (some v)) (q : Q v H) : tVar i σ H Q := ⟨v, h, q⟩
theorem r_c (q : Q v H) : tC v σ H Q := q
theorem r_op {r : R2} (h : ta σ H fun x H1 => tb σ H1 fun y H2 => r x y H2 Q) : tOp r ta tb σ H Q := h
theorem r_un {r : V → Hp → VK → Prop} (h : ta σ H fun x H1 => r x H1 Q) : tUn r ta σ H Q := h
theorem r_I {C : Int → Int → Prop} {f : Int → Int → V} {a b : Int} (c : C a b) (q : Q (f a b) H) : rI C f (.int a) (.int b) H Q := ⟨a, b, rfl, rfl, c, q⟩
theorem r_I0 {f : Int → Int → V} {a b : Int} (q : Q (f a b) H) : rI0 f (.int a) (.int b) H Q := ⟨a, b, rfl, rfl, q⟩
theorem r_U {f : Int → V} {a : Int} (q : Q (f a) H) : rU f (.int a) H Q := ⟨a, rfl, q⟩
theorem r_eq (s : scal x y = true) (q : Q (.bl (decide (x = y))) H) : rEq x y H Q := ⟨s, q⟩
theorem r_ne (s : scal x y = true) (q : Q (.bl (!decide (x = y))) H) : rNe x y H Q := ⟨s, q⟩
theorem r_test (h : te σ H fun x H1 => ∃ k, x = .bl k ∧ R k H1) : tTest te σ H R := h
theorem r_B (h : te σ H fun x H1 => ∃ k, x = .bl k ∧ R k H1) : tB te σ H R := h
theorem r_bl {b : Bool} {P : Bool → Prop} (q : P b) : ∃ k, V.bl b = .bl k ∧ P k := ⟨b, rfl, q⟩
theorem r_and (h : tt σ H fun c H1 => if c = true then tu σ H1 R else R false H1) : tAnd tt tu σ H R := h
theorem r_or (h : tt σ H fun c H1 => if c = true then R true H1 else tu σ H1 R) : tOr tt tu σ H R := h
theorem r_not (h : tt σ H fun c H1 => R (!c) H1) : tNot tt σ H R := h
theorem r_andV (h : ta σ H fun x H1 => ∃ c, x = .bl c ∧ if c = true then tb σ H1 Q else Q (.bl false) H1) : tAndV ta tb σ H Q := h
theorem r_orV (h : ta σ H fun x H1 => ∃ c, x = .bl c ∧ if c = true then Q (.bl true) H1 else tb σ H1 Q) : tOrV ta tb σ H Q := h
theorem r_notV (h : ta σ H fun x H1 => ∃ c, x = .bl c ∧ Q (.bl (!c)) H1) : tNotV ta σ H Q := h
theorem r_ife (h : tt σ H fun c H1 => if c = true then ta σ H1 Q else tb σ H1 Q) : tIf tt ta tb σ H Q := h
theorem r_chain {r r' : R2} (h : ta σ H fun x H1 => tb σ H1 fun y H2 => r x y H2 fun z H3 => ∃ k, z = .bl k ∧
  (if k = true then tc σ H3 fun w' H4 => r' y w' H4 Q else Q (.bl false) H3)) : tChain r r' ta tb tc σ H Q := h
theorem r_nil {P : List V → Hp → Prop} (q : P [] H) : tNil σ H P := q
theorem r_cons {P : List V → Hp → Prop} (h : ta σ H fun x H1 => tA σ H1 fun xs H2 => P (x :: xs) H2) : tCons ta tA σ H P := h
theorem r_tup (h : tA σ H fun xs H1 => xs.length ≤ sizeLine ∧ ∀ p, H1 p = none → Q (.ref p) (upd H1 p (.tup xs))) : tTup tA σ H Q := h
theorem r_lst (h : tA σ H fun xs H1 => xs.length ≤ sizeLine ∧ ∀ p, H1 p = none → Q (.ref p) (upd H1 p (.lst xs))) : tLst tA σ H Q := h
theorem r_new {n : Nat} {P : Prop} (h1 : n ≤ 1000) (q : P) : n ≤ sizeLine ∧ P := ⟨Nat.le_trans h1 (by decide), q⟩
theorem r_CB {r : List V → Hp → VK → Prop} (h : tA σ H fun vs H1 => r vs H1 Q) : tCB r tA σ H Q := h
theorem r_call {sp : Sp} {dvs : List V} {E : XK} (h : tA σ H fun vs H1 => sp (vs ++ dvs) H1 Q E) : tCall sp dvs E tA σ H Q := h
theorem r_callS {sp : Sp} {E : L2.St → XK} (h : tA σ H fun vs H1 => sp vs H1 Q (E σ)) : tCallS sp E tA σ H Q := h
theorem r_for {wi : TI} (h : wi σ H fun J H1 => ∃ W : Nat → Nat → L2.St → Hp → Prop, (∃ m, W 0 m σ H1) ∧ ∀ i m σ H, W i m σ H →
  (J.stop i H ∧ D.nx σ H) ∨ (J.go i H ∧ ∃ N : L2.St → Hp → Prop, (∀ σ' H', N σ' H' → ∃ m', m' < m ∧ W (i + 1) m' σ' H') ∧ ∀ x H', J.yld i H x H' → g x σ H' fun σ2 H2 => t { D with nx := N, ct := N, bk := D.nx } σ2 H2)) : tFor wi g t D σ H := h
theorem r_iR1 {P : It → Hp → Prop} (h : tA σ H fun vs H1 => ∃ j : Int, vs = [.int j] ∧ -(2 ^ 62) ≤ j ∧ j < 2 ^ 62 ∧ P (Itr 0 j.toNat) H1) : iRng1 tA σ H P := h
theorem r_iR2 {P : It → Hp → Prop} (h : tA σ H fun vs H1 => ∃ i j : Int, vs = [.int i, .int j] ∧ (-(2 ^ 62) ≤ i ∧ i < 2 ^ 62 ∧ -(2 ^ 62) ≤ j ∧ j < 2 ^ 62) ∧ P (Itr i (j - i).toNat) H1) : iRng2 tA σ H P := h
theorem r_sub {to ti : TE} {w : TSet} {Q : L2.St → Hp → Prop} (h : to σ H fun o H1 => ti σ H1 fun i H2 => w o i v H2 fun H3 => Q σ H3) : gSub to ti w v σ H Q := h
theorem r_ixL {p : Addr} {xs : List V} {k : Int} (h : SqL K H p xs) (e : atI xs k = some v) (q : Q v H) : rIxL K (.ref p) (.int k) H Q := ⟨p, xs, k, v, rfl, rfl, h, e, q⟩
theorem r_ixT {p : Addr} {xs : List V} {k : Int} (h : SqT K H p xs) (e : atI xs k = some v) (q : Q v H) : rIxT K (.ref p) (.int k) H Q := ⟨p, xs, k, v, rfl, rfl, h, e, q⟩
theorem r_setL {p : Addr} {xs : List V} {k : Int} {j : Nat} {P : Hp → Prop} (h : H p = some (.lst xs)) (e : ixN xs.length k = some j) (q : P (upd H p (.lst (xs.set j v)))) : rSetL (.ref p) (.int k) v H P := ⟨p, xs, k, j, rfl, rfl, h, e, q⟩
theorem r_true {A B : Prop} {c : Bool} (e : c = true) (h : A) : if c = true then A else B := by rw [if_pos e]; exact h
theorem r_false {A B : Prop} {c : Bool} (e : c = false) (h : B) : if c = true then A else B := by rw [e, if_neg Bool.false_ne_true]; exact h
theorem r_dec {A B p : Prop} {_ : Decidable p} (h1 : p → A) (h2 : ¬ p → B) : if decide p = true then A else B := by
  by_cases h : p
  · exact r_true (decide_eq_true h) (h1 h)
  · exact r_false (decide_eq_false h) (h2 h)
theorem r_ndec {A B p : Prop} {_ : Decidable p} (h1 : ¬ p → A) (h2 : p → B) : if (!decide p) = true then A else B := by
  by_cases h : p
  · exact r_false (by rw [decide_eq_true h]; rfl) (h2 h)
  · exact r_true (by rw [decide_eq_false h]; rfl) (h1 h)
theorem r_bool {A B : Prop} {c : Bool} (h1 : c = true → A) (h2 : c = false → B) : if c = true then A else B := by
  cases c
  · exact r_false rfl (h2 rfl)
  · exact r_true rfl (h1 rfl)
theorem r_int {a : Int} {P : Int → Prop} {P' : Bool → Prop} (q : P a) : (∃ i, [V.int a] = [.int i] ∧ P i) ∨ ∃ k, [V.int a] = [.bl k] ∧ P' k := .inl ⟨a, rfl, q⟩
theorem small_of {n : Nat} (h : n ≤ 1000) : n ≤ sizeLine := Nat.le_trans h (by decide)
theorem small_lt {n : Nat} (h : n < 1000) : n < sizeLine := Nat.lt_of_lt_of_le h (by decide)
/-- what stands ahead of a new object, stands behind it -/
theorem kp {a p : Addr} {o u : HO} (h : H a = some o) (n : H p = none) : upd H p u a = some o := by rw [upd_ne (ne_of_none h n)]; exact h
theorem kpO {a l : Addr} {o u : HO} (h : H a = some o) (n : a ≠ l) : upd H l u a = some o := by rw [upd_ne n]; exact h
theorem same_new {p : Addr} {u : HO} (n : H p = none) : Same H (upd H p u) := fun _ _ e => kp e n
theorem Same.sqT {H' : Hp} {a : Addr} {xs : List V} (e : Same H H') (h : SqT K H a xs) : SqT K H' a xs := by
  rcases h with (h | ⟨o, h⟩) | h
  · exact .inl (.inl (e _ _ h))
  · exact .inl (.inr ⟨o, e _ _ h⟩)
  · exact .inr h
end
end Jv

/-! ### rules that the layer lacks: set(x), sorted(x) of a list or a tuple of ints; X() of an own exception; what the top says of exceptions -/
namespace JvS
open PySem PySem.Spec PyProof.Rows L2 SrtO
section
variable {P : Program} {w : World} {A : Around} {E : Value → Shared → Prop} {s : Shared}
/-- the empty set that set() begins with -/
abbrev emptyS (w : World) : Obj := { cls := .type "set", dict := none, data := .set #[] 0 (.fresh 0 0 (!w.params.followText "set-order")) }
theorem set_listI {l : Addr} {items : Array Value} (ns : List Int) {Q : Value → Shared → Prop} (hh : A.handled = none) (hl : s.heap.IsList l items) (hv : IntsAre items.toList ns) (few : ns.length + 1 < scanBound)
    (h : ∀ (h' : Heap) (tk c : Nat), SetR w h' s.heap.objs.size (fun j => decide (j ∈ ns)) c → c ≤ ns.length → (∀ b o, s.heap.get? b = some o → h'.get? b = some o) → Q (.ref s.heap.objs.size) { s with heap := h', toks := tk }) :
    wpAny (model P w) A (call (.type "set") [.ref l]) Q E s := by
  have sz : items.size = ns.length := by simpa using IntsAre.length hv
  obtain ⟨cM, tM, eM⟩ := F.called_set.mro
  have e1 := F.called_set.made; have e2 := F.called_set.sub; have e3 := F.called_set.notType; have e4 := F.called_set.canCreate; have e5 := F.typeCall_set_1 (.ref l)
  refine wpAny_call (codeAny_of_tree (show wpAny _ _ (callAny (.type "set") _) _ _ _ from wpAny_pure ⟨Code.quiet_builtin _ (by decide +kernel), codeAny_builtin F.entry_type_call ?_⟩))
  rw [Around.under_plain (weight_type_call_type "set" [.ref l] []) rfl]
  repeat any_goals (first | wp_step | assumption)
  refine codeAny_mono (code_set_led1 (P := P) (.ref l) (E := E) (Q₁ := fun v s1 => v = .ref s.heap.objs.size ∧ s1 = { s with heap := s.heap.push (emptyS w) }) ⟨rfl, rfl⟩) fun r s1 hr => ?_
  cases r with
  | error e => exact hr
  | ok fl =>
    cases fl with
    | next => exact hr.elim
    | brk => exact hr.elim
    | cont => exact hr.elim
    | ret v =>
      obtain ⟨rfl, rfl⟩ := hr
      have atS : (s.heap.push (emptyS w)).get? s.heap.objs.size = some (emptyS w) := Heap.get?_push_size _ rfl
      have tyS : Shared.TypeIs { s with heap := s.heap.push (emptyS w) } (.ref s.heap.objs.size) "set" := ⟨_, atS, rfl⟩
      have e6 := F.called_set.init.lookup; have e7 := F.called_set.init.bind (.ref s.heap.objs.size)
      repeat any_goals (first | wp_step | assumption)
      refine codeAny_mono (codeAny_call_builtin (R := wants (fun r s2 => r = .none ∧ ∃ h' tk c, s2 = { s with heap := h', toks := tk } ∧ SetR w h' s.heap.objs.size (fun j => decide (j ∈ ns)) c ∧ c ≤ ns.length ∧
        ∀ b o, s.heap.get? b = some o → h'.get? b = some o) E) F.called_set.init.plain F.entry_set_init (check_set_init_1 tyS ?_)) fun r2 s2 hr2 => ?_
      · have old : ∀ b o, s.heap.get? b = some o → (s.heap.push (emptyS w)).get? b = some o := fun b o q => Heap.get?_push_of_some _ q
        have lS : l < s.heap.objs.size := by obtain ⟨o, q, _⟩ := hl; exact Heap.lt_size q
        obtain ⟨⟨oc, od, dt, sl⟩, ol, q1, n1, q2⟩ := hl
        simp only at q1 q2; subst q1 q2
        have ol2 := old _ _ ol
        have isl : (s.heap.push (emptyS w)).IsList l items := ⟨_, ol2, rfl, n1, rfl⟩
        have b1 := F.sub_list_set; have b2 := F.sub_list_frozenset; have b3 : (Value.type "list" == Value.type "dict") = false := by decide
        unfold Builtin.«set.__init__» noKeywords Builtin.Frozenset.updateFrom
        generalize walkIt : pyIter = PI
        wp_walk
        subst walkIt
        refine wpAny_pyIter_list isl (wpAny_bind (wpAny_runValue ?_))
        have more : (s.heap.push (emptyS w)).objs.size = s.heap.objs.size + 1 := Heap.size_push ..
        have hh3 : A.in1.in1.in1.handled = none := by simp [hh]
        have lI : l ≠ (s.heap.push (emptyS w)).objs.size := by rw [more]; exact Nat.ne_of_lt (Nat.lt_succ_of_lt lS)
        have nS : s.heap.objs.size ∉ [(s.heap.push (emptyS w)).objs.size, l] := by
          rw [more]; simp only [List.mem_cons, List.not_mem_nil, or_false, not_or]
          exact ⟨Nat.ne_of_lt (Nat.lt_succ_self _), Nat.ne_of_gt lS⟩
        refine set_update_ints ((Walks.list hh3 _ l lI items).toS) s.heap.objs.size nS ns sz few (fun i v q => ?_) (items.size - 0) 0 _ (by omega) (Nat.zero_le _) ⟨⟨_, Heap.get?_push_size _ rfl, rfl, rfl⟩, isl.push _⟩ ⟨0, Nat.le_refl 0, setR_new_at (Heap.get?_push_of_some _ atS)⟩ fun s3 c hm hc hS => ?_
        · have hi : i < ns.length := by rw [← sz]; exact (Array.getElem?_eq_some_iff.mp q).1
          obtain ⟨t, e⟩ := PyProof.Rows.IntsAre.int_at hv i v (by rw [Array.getElem?_toList]; exact q)
          exact ⟨ns[i], t, List.getElem?_eq_getElem hi, by rw [e, List.getD_eq_getElem?_getD, List.getElem?_eq_getElem hi]; rfl⟩
        · obtain ⟨h3, g3, d3, t3, o3⟩ := s3
          obtain rfl : g3 = s.gens := hm.gens
          obtain rfl : d3 = s.drawn := hm.drawn
          obtain rfl : o3 = s.os := hm.os
          rw [sz] at hc
          refine wpAny_pure (show wpAny _ _ (ret Value.none) _ _ _ from wpAny_pure ⟨rfl, h3, t3, c, rfl, hS, hc, fun b o e => ?_⟩)
          have lb : b < s.heap.objs.size := Heap.lt_size e
          exact hm.heap b o (by
            rw [more]; simp only [List.mem_cons, List.not_mem_nil, or_false, not_or]
            exact ⟨Nat.ne_of_lt lb, Nat.ne_of_lt (Nat.lt_succ_of_lt lb)⟩) (Heap.get?_push_of_some _ (old _ _ e))
      · cases r2 with
        | error e => exact hr2
        | ok f2 =>
          cases f2 with
          | next => exact hr2.elim
          | brk => exact hr2.elim
          | cont => exact hr2.elim
          | ret r =>
            obtain ⟨rfl, h', tk, c, rfl, hS, hc, keep⟩ := hr2
            repeat any_goals (first | wp_step | assumption)
            exact h _ _ _ hS hc keep
end
end JvS
namespace Jv
open PySem PySem.Spec PyProof.Rows L2
section
variable {X : Cx}
/-- set(x), x a list or a tuple of ints -/
def rSetI (K : PySem.W.Frag) (w : World) : List V → Hp → VK → Prop := fun xs H Q => ∃ (l : Addr) (ns : List Int), xs = [.ref l] ∧ (SqL K H l (ns.map V.int) ∨ SqT K H l (ns.map V.int)) ∧ ns.length ≤ 1000 ∧
  ∀ p c, H p = none → c ≤ ns.length → Q (.ref p) (upd H p (SetO w p (fun j => decide (j ∈ ns)) c))
theorem cr_setI (hc : X.calm = true) : CallR X (.type "set") (rSetI X.K X.w) := by
  intro pins s σ H xs us Q I r h
  obtain ⟨l, ns, rfl, hs, few, q⟩ := h
  rw [Vals.ref1 r]
  have fin : ∀ (h' : Heap) (tk c : Nat), SetR X.w h' s.heap.objs.size (fun j => decide (j ∈ ns)) c → c ≤ ns.length → (∀ b o, s.heap.get? b = some o → h'.get? b = some o) →
      EP X pins σ Q (.ref s.heap.objs.size) { s with heap := h', toks := tk } := fun h' tk c R hcn keep =>
    ⟨.ref s.heap.objs.size, upd H s.heap.objs.size (SetO X.w s.heap.objs.size (fun j => decide (j ∈ ns)) c), I.laid (t' := tk) keep (Nat.le_refl _) (setO_new R), rfl, q _ c (I.hok.fresh (Nat.le_refl _)) hcn⟩
  rcases hs with hs | hs
  · obtain ⟨its, rv, hl, hz⟩ := I.list hs
    exact JvS.set_listI ns (I.ok.hd hc) hl.isList (by simpa using ints_of_vals rv) (by unfold scanBound; omega) fin
  · obtain ⟨its, rv, ht, hz⟩ := I.tuple hs
    exact call_set_tupI ns (I.ok.hd hc) (show s.heap.IsTuple l its.toArray from ht) (by simpa using ints_of_vals rv) (by unfold scanBound; omega) fin
/-- either of two rules for a call -/
theorem crOr {f : Value} {r r' : List V → Hp → VK → Prop} (h : CallR X f r) (h' : CallR X f r') : CallR X f (fun xs H Q => r xs H Q ∨ r' xs H Q) := fun pins s σ H xs us Q I rv q =>
  q.elim (fun q => h pins s σ H xs us Q I rv q) fun q => h' pins s σ H xs us Q I rv q
end
/-- an own error class without an __init__ of its own -/
structure ExcP (K : PySem.W.Frag) (C : Addr) : Prop where
  x : PySem.W.excIn K C [.type "ValueError", .type "Exception", .type "BaseException", .type "object"] "ValueError.__new__" = true
  k : PySem.W.keepIn K (.ref C) = true
  b : PySem.W.subIn K (.ref C) (.type "BaseException") = some true
  t : PySem.W.typeIn K (.ref C) = some (.type "type")
  i : PySem.W.isClsIn K C = true
  s : PySem.W.subIn K (.ref C) (.ref C) = some true
theorem exm_of {K : PySem.W.Frag} {C : Addr} (b : PySem.W.subIn K (.ref C) (.type "BaseException") = some true) (i : PySem.W.isClsIn K C = true) (t : PySem.W.typeIn K (.ref C) = some (.type "type")) (s : PySem.W.subIn K (.ref C) (.ref C) = some true) :
    PySem.W.exmOne K (.ref C) (.ref C) = some true := by
  have i' : (PySem.W.clsIn K C).isSome = true := i
  unfold PySem.W.exmOne PySem.W.kitCls
  simp [b, i', t, s]
theorem ExcP.e {K : PySem.W.Frag} {C : Addr} (h : ExcP K C) : PySem.W.exmOne K (.ref C) (.ref C) = some true := exm_of h.b h.i h.t h.s
theorem ExcP.raises {X : Cx} {C : Addr} (h : ExcP X.K C) : Raises X (.ref C) := raises_own h.b h.t
/-- .. with one, at fI -/
structure ExcI (K : PySem.W.Frag) (C fI : Addr) : Prop where
  o : OexC K C
  n : PySem.W.findIn K (.ref C) "__init__" = some (some (.ref fI))
  y : PySem.W.typeIn K (.ref fI) = some (.type "function")
  i : PySem.W.isClsIn K C = true
  s : PySem.W.subIn K (.ref C) (.ref C) = some true
  f : XfC K C
theorem ExcI.e {K : PySem.W.Frag} {C fI : Addr} (h : ExcI K C fI) : PySem.W.exmOne K (.ref C) (.ref C) = some true := exm_of h.o.exC h.i h.o.tyC h.s
section
variable {X : Cx}
/-- X() -/
theorem pmk_own0 {C : Addr} {bmB : List Value} {B newId initId : String} {x : Str} {p pos : Pos} (F : ExcBaseFacts B newId initId bmB) (q : PySem.W.excIn X.K C bmB newId = true) (gC : X.mg x = some (.ref C))
    (kC : PySem.W.keepIn X.K (.ref C) = true) (r : Raises X (.ref C)) (hg : Gl X x) (hdb : (x == ("__debug__" : Str)) = false := by decide) : PMk X (.Call (.Name x p) [] [] pos) (fun _ H Q => Q (.ref C) none H) := by
  intro pins s σ H Q I h
  refine wpAny_Call_Name_kw (ld_glob I hg gC (PySem.W.callWith_K0 I.kIn kC ?_) hdb)
  obtain ⟨bm, N, nm, qn, bs, hdct, sn, sub, ab, col, dd, k0, k1, k2, k3, k5, mN, hC, hN, hni, T⟩ := exc_obj I.kIn q
  exact wpAny_call_exc_subT F T hC hN hni (fun h' e hm => mk_of I hm r h (I.hok.gone hm.new)) (Nat.zero_le _)
end
end Jv

/-! ### binding with defaults -/
namespace Jv
open PySem PySem.Spec PyProof.Rows L2
section
variable {K : PySem.W.Frag} {fd : FuncData} {ps : List Str} {T : Addr} {o : Obj} {its : Array Value} {n : Nat}
theorem bindsD {ds : List Value} {m : Nat} (l : K.lookup T = some o) (hd : o.data = .seq its n) (hm : m + ds.length = ps.length)
    (h : ∀ us : List Value, us.length = m → ∃ k, bindArgs fd ⟨us, []⟩ = seqItems? (.ref T) >>= k ∧ k (some its) = pure (ps.zip (us ++ ds))) : Binds K fd ps ds := fun s us X hl => by
  obtain ⟨k, e1, e2⟩ := h us (by rw [List.length_append] at hl; omega)
  refine BindsTo.of_looks fun M => ?_
  rw [e1]
  exact looks_items X l hd (.of_pure e2)
theorem kbD {m : Nat} {ks : List Str} {g : List Value → List Value → List Value} {gV : List V → List V → List V} (l : K.lookup T = some o) (hd : o.data = .seq its n)
    (h : ∀ us ws : List Value, us.length = m → ws.length = ks.length → ∃ k, bindArgs fd ⟨us, ks.zip ws⟩ = seqItems? (.ref T) >>= k ∧ k (some its) = pure (ps.zip (g us ws)))
    (rel : ∀ {vs : List V} {us : List Value} {zs : List V} {ws : List Value}, Vals vs us → Vals zs ws → Vals (gV vs zs) (g us ws)) : KBn K fd ps m ks g gV := by
  refine ⟨fun s us ws X h1 h2 => ?_, rel⟩
  obtain ⟨k, e1, e2⟩ := h us ws h1 h2
  refine BindsTo.of_looks fun M => ?_
  rw [e1]
  exact looks_items X l hd (.of_pure e2)
end
end Jv
namespace Jv
open PySem PySem.Spec PyProof.Rows L2
section
variable {K : PySem.W.Frag} {σ : L2.St} {H : Hp} {D : Ends} {t u : TS} {te ta tb tc : TE} {g : TG} {tt tu : TT} {tA : TA} {i : Nat} {v x y z : V} {Q : VK} {R : Bool → Hp → Prop}
theorem r_gtup {T : Addr} {xs : List V} {n : Nat} {gs : TGs} {Q : L2.St → Hp → Prop} (h : SqT K H T xs) (hl : xs.length = n) (q : gs xs σ H Q) : gTup K n gs (.ref T) σ H Q := ⟨T, xs, rfl, h, hl, q⟩
theorem r_gcons {gs : TGs} {xs : List V} {Q : L2.St → Hp → Prop} (q : g v σ H fun σ' H' => gs xs σ' H' Q) : gCons g gs (v :: xs) σ H Q := ⟨v, xs, rfl, q⟩
theorem r_gnil {Q : L2.St → Hp → Prop} (q : Q σ H) : gNil [] σ H Q := ⟨rfl, q⟩
theorem r_lc {wi : TI} {vs : List Nat} (h : wi σ H fun J H1 => ∀ D, H1 D = none → ∃ W : Nat → Nat → Hp → Prop, (∃ m, W 0 m (upd H1 D (.lst []))) ∧ ∀ i m H, W i m H →
  (J.stop i H ∧ Q (.ref D) H) ∨ (J.go i H ∧ ∃ Nx : Hp → Prop, (∀ H', Nx H' → ∃ m', m' < m ∧ W (i + 1) m' H') ∧ ∀ x H', J.yld i H x H' → g x (wipe σ vs) H' fun σ2 H2 => wipe σ2 vs = wipe σ vs ∧ tt σ2 H2 fun b H3 =>
    if b = true then te σ2 H3 fun y H4 => ∃ acc, H4 D = some (.lst acc) ∧ acc.length < sizeLine ∧ Nx (upd H4 D (.lst (acc ++ [y]))) else Nx H3)) : tLc wi g tt te vs σ H Q := h
theorem r_iE {P : It → Hp → Prop} {a : Addr} {xs : List V} (h : SqL K H a xs) (q : P (Ite K a) H) : ∃ b ys, [V.ref a] = [.ref b] ∧ SqL K H b ys ∧ P (Ite K b) H := ⟨a, xs, rfl, h, q⟩
theorem r_iEn {P : It → Hp → Prop} (h : tA σ H fun vs H1 => ∃ b ys, vs = [.ref b] ∧ SqL K H1 b ys ∧ P (Ite K b) H1) : iEnum K tA σ H P := h
theorem r_iL {P : It → Hp → Prop} (h : te σ H fun x H1 => ∃ a, x = .ref a ∧ (∃ xs, SqL K H1 a xs) ∧ P (Itl K a) H1) : iList K te σ H P := h
theorem r_iT {P : It → Hp → Prop} (h : te σ H fun x H1 => ∃ a, x = .ref a ∧ (∃ xs, SqT K H1 a xs) ∧ P (Itt K a) H1) : iTup K te σ H P := h
theorem r_yes (q : R true H) : tYes σ H R := q
theorem r_abs {a : Int} {P : Int → Prop} (q : P (if a < 0 then -a else a)) : ∃ i, [V.int a] = [.int i] ∧ P (if i < 0 then -i else i) := ⟨a, rfl, q⟩
theorem r_ift {A B : Prop} (h : A) : if true = true then A else B := by rw [if_pos rfl]; exact h
theorem r_iff {A B : Prop} (h : B) : if false = true then A else B := by rw [if_neg Bool.false_ne_true]; exact h
end
end Jv
namespace Jv
open PySem PySem.Spec PyProof.Rows L2
section
variable {K : PySem.W.Frag} {H H' : Hp} {a p l : Addr} {xs : List V} {o u : HO}
theorem sqL_new (h : SqL K H a xs) (n : H p = none) : SqL K (upd H p u) a xs := (same_new n).seq h
theorem sqT_new (h : SqT K H a xs) (n : H p = none) : SqT K (upd H p u) a xs := Jv.Same.sqT (same_new n) h
theorem sqL_at (h : H a = some (.lst xs)) : SqL K H a xs := .inl (.inl h)
theorem sqT_at (h : H a = some (.tup xs)) : SqT K H a xs := .inl (.inl h)
theorem map_at {f : Int → V} {ns : List Int} {i : Nat} {x : V} (h : (ns.map f)[i]? = some x) : ∃ z, ns[i]? = some z ∧ x = f z := by
  rw [List.getElem?_map] at h
  cases e : ns[i]? with
  | none => rw [e] at h; cases h
  | some z => rw [e] at h; exact ⟨z, rfl, (Option.some.inj h).symm⟩
end
end Jv
namespace Jv
open PySem PySem.Spec PyProof.Rows L2
theorem r_wipe {σ1 σ2 : L2.St} {vs : List Nat} {P : Prop} (e : wipe σ1 vs = wipe σ2 vs) (q : P) : wipe σ1 vs = wipe σ2 vs ∧ P := ⟨e, q⟩
end Jv
namespace Jv
open PySem PySem.Spec PyProof.Rows L2
section
variable {K : PySem.W.Frag} {H : Hp}
def rLenK (K : PySem.W.Frag) : List V → Hp → VK → Prop := fun xs H Q => ∃ x n, xs = [x] ∧ LenV K x H n ∧ Q (.int n) H
theorem cr_len {X : Cx} : CallR X (.builtin "len") (rLenK X.K) := call_len
def rAbs : List V → Hp → VK → Prop := fun xs H Q => ∃ i, xs = [.int i] ∧ Q (.int (if i < 0 then -i else i)) H
theorem cr_abs {X : Cx} : CallR X (.builtin "abs") rAbs := call_abs
def rMin2 : List V → Hp → VK → Prop := fun xs H Q => ∃ i j, xs = [.int i, .int j] ∧ Q (.int (if j < i then j else i)) H
def rMax2 : List V → Hp → VK → Prop := fun xs H Q => ∃ i j, xs = [.int i, .int j] ∧ Q (.int (if j > i then j else i)) H
def rInt : List V → Hp → VK → Prop := fun xs H Q => (∃ i, xs = [.int i] ∧ Q (.int i) H) ∨ ∃ k, xs = [.bl k] ∧ Q (.int (if k then 1 else 0)) H
theorem cr_int {X : Cx} : CallR X (.type "int") rInt := call_int1
def rListOf (K : PySem.W.Frag) : List V → Hp → VK → Prop := fun xs H Q => ∃ p ys, xs = [.ref p] ∧ (SqL K H p ys ∨ SqT K H p ys) ∧ ∀ l, H l = none → Q (.ref l) (upd H l (.lst ys))
def rTupOf (K : PySem.W.Frag) : List V → Hp → VK → Prop := fun xs H Q => ∃ p ys, xs = [.ref p] ∧ ((SqL K H p ys ∧ ∀ l, H l = none → Q (.ref l) (upd H l (.tup ys))) ∨ (SqT K H p ys ∧ Q (.ref p) H))
section
variable {Q : VK}
theorem r_len {p : Addr} {xs : List V} (h : SqL K H p xs ∨ SqT K H p xs) (q : Q (.int xs.length) H) : rLenK K [V.ref p] H Q := ⟨_, xs.length, rfl, by
  rcases h with h | h
  · exact .inl ⟨xs, h, rfl⟩
  · exact .inr ⟨xs, h, rfl⟩, q⟩
theorem r_absN {a : Int} (q : Q (.int (if a < 0 then -a else a)) H) : rAbs [.int a] H Q := ⟨a, rfl, q⟩
theorem r_min {a b : Int} (q : Q (.int (if b < a then b else a)) H) : rMin2 [.int a, .int b] H Q := ⟨a, b, rfl, q⟩
theorem r_max {a b : Int} (q : Q (.int (if b > a then b else a)) H) : rMax2 [.int a, .int b] H Q := ⟨a, b, rfl, q⟩
theorem r_intN {a : Int} (q : Q (.int a) H) : rInt [.int a] H Q := .inl ⟨a, rfl, q⟩
theorem r_listOf {p : Addr} {ys : List V} (h : SqL K H p ys ∨ SqT K H p ys) (q : ∀ l, H l = none → Q (.ref l) (upd H l (.lst ys))) : rListOf K [.ref p] H Q := ⟨p, ys, rfl, h, q⟩
theorem r_tupOfL {p : Addr} {ys : List V} (h : SqL K H p ys) (q : ∀ l, H l = none → Q (.ref l) (upd H l (.tup ys))) : rTupOf K [.ref p] H Q := ⟨p, ys, rfl, .inl ⟨h, q⟩⟩
theorem r_tupOfT {p : Addr} {ys : List V} (h : SqT K H p ys) (q : Q (.ref p) H) : rTupOf K [.ref p] H Q := ⟨p, ys, rfl, .inr ⟨h, q⟩⟩
end
theorem r_decI {A B : Prop} {a b : Int} (h1 : a = b → A) (h2 : a ≠ b → B) : if decide (V.int a = V.int b) = true then A else B := r_dec (fun h => h1 (V.int.inj h)) fun h => h2 fun e => h (by rw [e])
theorem r_ndecI {A B : Prop} {a b : Int} (h1 : a ≠ b → A) (h2 : a = b → B) : if (!decide (V.int a = V.int b)) = true then A else B := r_ndec (fun h => h1 fun e => h (by rw [e])) fun h => h2 (V.int.inj h)
theorem ixN_of {n j : Nat} (hj : j < n) : ixN n (j : Int) = some j := by
  unfold ixN
  rw [if_pos (by omega), if_pos (by omega)]
  simp
end
end Jv
namespace Jv
open PySem PySem.Spec PyProof.Rows L2
theorem at_i {xs : List V} {k : Int} {v : V} (h0 : 0 ≤ k) (h : xs[k.toNat]? = some v) : atI xs k = some v := by
  rw [show k = ((k.toNat : Nat) : Int) by omega]
  exact atI_nat h
theorem map_get {f : Int → V} {ns : List Int} {i : Nat} (h : i < ns.length) : (ns.map f)[i]? = some (f ns[i]) := by
  rw [List.getElem?_map, List.getElem?_eq_getElem h]; rfl
end Jv

/-! ### things of any sort -/
namespace Jv
open PySem PySem.Spec PyProof.Rows L2
/-- a thing that a law hands in: a scalar, or a list, a tuple, a dict that stands -/
def Th (H : Hp) : V → Prop
  | .non => True
  | .bl _ => True
  | .int _ => True
  | .str _ => True
  | .ref a => (∃ xs, H a = some (.lst xs)) ∨ (∃ xs, H a = some (.tup xs)) ∨ ∃ kvs, H a = some (.dK kvs)
  | _ => False
def isB : V → Bool
  | .bl _ => true
  | _ => false
def isI : V → Bool
  | .int _ => true
  | _ => false
/-- a list or a tuple of xs -/
def Sq (H : Hp) (x : V) (xs : List V) : Prop := ∃ a, x = .ref a ∧ (H a = some (.lst xs) ∨ H a = some (.tup xs))
def sqOf (H : Hp) : V → Option (List V)
  | .ref a => match H a with
    | some (.lst xs) => some xs
    | some (.tup xs) => some xs
    | _ => none
  | _ => none
theorem sq_some {H : Hp} {x : V} {xs : List V} (h : sqOf H x = some xs) : Sq H x xs := by
  unfold sqOf at h
  split at h
  · rename_i a
    split at h
    · rename_i ys e; cases h; exact ⟨a, rfl, .inl e⟩
    · rename_i ys e; cases h; exact ⟨a, rfl, .inr e⟩
    · cases h
  · cases h
theorem Sq.of {H : Hp} {x : V} {xs : List V} (h : Sq H x xs) : sqOf H x = some xs := by
  obtain ⟨a, rfl, h | h⟩ := h <;> simp [sqOf, h]
theorem Sq.same {H H' : Hp} {x : V} {xs : List V} (h : Sq H x xs) (s : Same H H') : Sq H' x xs := by
  obtain ⟨a, rfl, h | h⟩ := h
  · exact ⟨a, rfl, .inl (s _ _ h)⟩
  · exact ⟨a, rfl, .inr (s _ _ h)⟩
theorem Sq.th {H : Hp} {x : V} {xs : List V} (h : Sq H x xs) : Th H x := by
  obtain ⟨a, rfl, h | h⟩ := h
  · exact .inl ⟨_, h⟩
  · exact .inr (.inl ⟨_, h⟩)
theorem Th.same {H H' : Hp} {x : V} (h : Th H x) (s : Same H H') : Th H' x := by
  cases x with
  | ref a =>
    rcases h with ⟨xs, h⟩ | ⟨xs, h⟩ | ⟨xs, h⟩
    · exact .inl ⟨xs, s _ _ h⟩
    · exact .inr (.inl ⟨xs, s _ _ h⟩)
    · exact .inr (.inr ⟨xs, s _ _ h⟩)
  | _ => exact h
theorem sqOf_same {H H' : Hp} {x : V} (h : Th H x) (s : Same H H') : sqOf H' x = sqOf H x := by
  cases x with
  | ref a => rcases h with ⟨xs, h⟩ | ⟨xs, h⟩ | ⟨xs, h⟩ <;> simp [sqOf, h, s _ _ h]
  | _ => rfl
section
variable {K : PySem.W.Frag} {H : Hp} {x : V} {Q : VK}
theorem th_ty (h : Th H x) : ∃ t, TyX K H x (.type t) ∧ kitB t "bool" = some (isB x) ∧ kitB t "int" = some (isB x || isI x) ∧ kitB t "list" = some (t == "list") ∧ kitB t "tuple" = some (t == "tuple") ∧ ((t == "list") || (t == "tuple")) = (sqOf H x).isSome := by
  cases x with
  | non => exact ⟨_, .base .non, (by decide +kernel : kitB "NoneType" "bool" = some false), (by decide +kernel : kitB "NoneType" "int" = some false), by decide +kernel, by decide +kernel, (by decide +kernel : (("NoneType" == "list") || ("NoneType" == "tuple")) = false)⟩
  | bl b => exact ⟨_, .base (.bl b), (by decide +kernel : kitB "bool" "bool" = some true), (by decide +kernel : kitB "bool" "int" = some true), by decide +kernel, by decide +kernel, (by decide +kernel : (("bool" == "list") || ("bool" == "tuple")) = false)⟩
  | int i => exact ⟨_, .base (.int i), (by decide +kernel : kitB "int" "bool" = some false), (by decide +kernel : kitB "int" "int" = some true), by decide +kernel, by decide +kernel, (by decide +kernel : (("int" == "list") || ("int" == "tuple")) = false)⟩
  | str i => exact ⟨_, .base (.str i), (by decide +kernel : kitB "str" "bool" = some false), (by decide +kernel : kitB "str" "int" = some false), by decide +kernel, by decide +kernel, (by decide +kernel : (("str" == "list") || ("str" == "tuple")) = false)⟩
  | ref a =>
    rcases h with ⟨xs, h⟩ | ⟨xs, h⟩ | ⟨xs, h⟩
    · exact ⟨_, .base (.lst h), (by decide +kernel : kitB "list" "bool" = some false), (by decide +kernel : kitB "list" "int" = some false), by decide +kernel, by decide +kernel, by simp [sqOf, h]⟩
    · exact ⟨_, .base (.tup h), (by decide +kernel : kitB "tuple" "bool" = some false), (by decide +kernel : kitB "tuple" "int" = some false), by decide +kernel, by decide +kernel, by simp [sqOf, h]⟩
    · exact ⟨_, .base (.dK h), (by decide +kernel : kitB "dict" "bool" = some false), (by decide +kernel : kitB "dict" "int" = some false), by decide +kernel, by decide +kernel, by simp [sqOf, h]⟩
  | byt _ => exact h.elim
  | flt _ => exact h.elim
  | ty _ => exact h.elim
theorem r_isB (h : Th H x) (q : Q (.bl (isB x)) H) : rIsi K [x, .ty "bool"] H Q := by
  obtain ⟨t, h1, h2, _⟩ := th_ty (K := K) h
  exact ⟨x, _, _, _, _, rfl, .ty _, h1, kit_ty h2, q⟩
theorem r_isI (h : Th H x) (q : Q (.bl (isB x || isI x)) H) : rIsi K [x, .ty "int"] H Q := by
  obtain ⟨t, h1, _, h2, _⟩ := th_ty (K := K) h
  exact ⟨x, _, _, _, _, rfl, .ty _, h1, kit_ty h2, q⟩
theorem r_isS {p : Addr} (hp : H p = some (.tup [.ty "list", .ty "tuple"])) (h : Th H x) (q : Q (.bl (sqOf H x).isSome) H) : rIsiT K [x, .ref p] H Q := by
  obtain ⟨t, h1, _, _, h2, h3, h4⟩ := th_ty (K := K) h
  refine ⟨x, p, _, _, _, (sqOf H x).isSome, rfl, hp, .cons (.ty _) (.cons (.ty _) .nil), h1, ?_, q⟩
  refine kitAny_cons (kit_ty h2) (fun e => ?_) fun e => by rw [← h4, e]; rfl
  refine kitAny_cons (kit_ty h3) (fun e2 => ?_) fun e2 => by rw [← h4, e2, Bool.or_true]
  rw [kitAny_nil, ← h4, e, e2]; rfl
theorem r_rfl {a : V} {P : Prop} (q : P) : a = a ∧ P := ⟨rfl, q⟩
end
/-- is_whole's answer -/
def loOk : V → Int → Bool
  | .int l, i => decide (l ≤ i)
  | _, _ => true
def hiOk : V → Int → Bool
  | .int l, i => decide (i ≤ l)
  | _, _ => true
def wholeV : V → V → V → Bool
  | .int i, lo, hi => loOk lo i && hiOk hi i
  | _, _, _ => false
def Bd (x : V) : Prop := x = .non ∨ ∃ i, x = .int i
theorem wholeV_int {x : V} {l h : Int} : wholeV x (.int l) (.int h) = true → ∃ i, x = .int i ∧ l ≤ i ∧ i ≤ h := by
  intro q
  cases x with
  | int i => simp [wholeV, loOk, hiOk] at q; exact ⟨i, rfl, q⟩
  | _ => cases q
end Jv
namespace Jv
open PySem PySem.Spec PyProof.Rows L2
theorem wholeV_lo0 {i a : Int} {hi : V} (h : i < a) : wholeV (.int i) (.int a) hi = false := by
  show (decide (a ≤ i) && hiOk hi i) = false
  rw [decide_eq_false (by omega), Bool.false_and]
theorem wholeV_lo1 {i a : Int} {hi : V} (h : ¬ i < a) : wholeV (.int i) (.int a) hi = hiOk hi i := by
  show (decide (a ≤ i) && hiOk hi i) = _
  rw [decide_eq_true (by omega), Bool.true_and]
theorem r_dec1 {A B p : Prop} {_ : Decidable p} (h : p) (q : A) : if decide p = true then A else B := r_true (decide_eq_true h) q
theorem r_dec0 {A B p : Prop} {_ : Decidable p} (h : ¬ p) (q : B) : if decide p = true then A else B := r_false (decide_eq_false h) q
end Jv

/-! ### walks over a list or a tuple; comprehensions whose elements are told by a function -/
namespace Jv
open PySem PySem.Spec PyProof.Rows L2
theorem piOr {X : Cx} {tg it : Expr} {w1 w2 : TI} (h : PI X tg it w1) (h' : PI X tg it w2) : PI X tg it (fun σ H R => w1 σ H R ∨ w2 σ H R) := ⟨fun pins s σ H R I q => q.elim (h.run pins s σ H R I) (h'.run pins s σ H R I)⟩
section
variable {K : PySem.W.Frag} {σ : L2.St} {H : Hp} {te : TE} {Q : VK} {xs : List V} {j i : Nat} {x : V}
theorem wipe1 {v : Option V} : wipe ((σ.set j none).set j v) [j] = wipe σ [j] := by
  show ((σ.set j none).set j v).set j none = σ.set j none
  rw [List.set_set, List.set_set]
theorem take_more {α : Type} {l : List α} {i : Nat} {x : α} (h : l[i]? = some x) : l.take (i + 1) = l.take i ++ [x] := by
  rw [List.take_add_one, h]; rfl
theorem lcF {J : It} {G : Hp → Prop} (w : Walk J xs.length G (YAt xs)) (hG : ∀ H', Same H H' → G H') (f : V → V) (few : xs.length ≤ 1000)
    (hs : ∀ v H1, v ∈ xs → Same H H1 → ∀ P : VK, (∀ H2, Same H1 H2 → P (f v) H2) → te ((σ.set j none).set j (some v)) H1 P)
    (hd : ∀ D H1, Same H H1 → H D = none → H1 D = some (.lst (xs.map f)) → Q (.ref D) H1) : ∀ D, H D = none → ∃ W : Nat → Nat → Hp → Prop, (∃ m, W 0 m (upd H D (.lst []))) ∧ ∀ i m H, W i m H →
      (J.stop i H ∧ Q (.ref D) H) ∨ (J.go i H ∧ ∃ Nx : Hp → Prop, (∀ H', Nx H' → ∃ m', m' < m ∧ W (i + 1) m' H') ∧ ∀ x H', J.yld i H x H' → gName j x (wipe σ [j]) H' fun σ2 H2 => wipe σ2 [j] = wipe σ [j] ∧ tYes σ2 H2 fun b H3 =>
        if b = true then te σ2 H3 fun y H4 => ∃ acc, H4 D = some (.lst acc) ∧ acc.length < sizeLine ∧ Nx (upd H4 D (.lst (acc ++ [y]))) else Nx H3) := by
  intro D hD
  refine lc_it w (fun i H1 => Same H H1 ∧ H1 D = some (.lst ((xs.take i).map f))) ⟨same_new hD, upd_same⟩ (fun i H1 _ h => hG H1 h.1) ?_ ?_
  · rintro i x H1 H2 hi ⟨s1, e1⟩ ⟨rfl, hx⟩
    refine ⟨wipe1, ?_⟩
    refine r_yes ?_
    refine r_true (c := true) rfl ?_
    refine hs x _ (List.mem_of_getElem? hx) s1 _ fun H3 s3 => ⟨_, s3 _ _ e1, ?_, ?_, ?_⟩
    · rw [List.length_map, List.length_take]; exact small_lt (by omega)
    · intro b o e; exact kpO (s3 _ _ (s1 b o e)) (ne_of_none e hD)
    · rw [upd_same, take_more hx, List.map_append]; rfl
  · rintro H1 ⟨s1, e1⟩
    rw [List.take_length] at e1
    exact hd D H1 s1 hD e1
/-- over a name that holds a list | a tuple | either -/
theorem lcL {a : Addr} (hv : σ[i]? = some (some (.ref a))) (hx : SqL K H a xs) (f : V → V) (few : xs.length ≤ 1000)
    (hs : ∀ v H1, v ∈ xs → Same H H1 → ∀ P : VK, (∀ H2, Same H1 H2 → P (f v) H2) → te ((σ.set j none).set j (some v)) H1 P)
    (hd : ∀ D H1, Same H H1 → H D = none → H1 D = some (.lst (xs.map f)) → Q (.ref D) H1) : tLc (iList K (tVar i)) (gName j) tYes te [j] σ H Q :=
  ⟨_, hv, a, rfl, ⟨xs, hx⟩, lcF walk_list (fun H' s => s.seq hx) f few hs hd⟩
theorem lcT {a : Addr} (hv : σ[i]? = some (some (.ref a))) (hx : SqT K H a xs) (f : V → V) (few : xs.length ≤ 1000)
    (hs : ∀ v H1, v ∈ xs → Same H H1 → ∀ P : VK, (∀ H2, Same H1 H2 → P (f v) H2) → te ((σ.set j none).set j (some v)) H1 P)
    (hd : ∀ D H1, Same H H1 → H D = none → H1 D = some (.lst (xs.map f)) → Q (.ref D) H1) : tLc (iTup K (tVar i)) (gName j) tYes te [j] σ H Q :=
  ⟨_, hv, a, rfl, ⟨xs, hx⟩, lcF walk_tup (fun H' s => Jv.Same.sqT s hx) f few hs hd⟩
theorem lcS (hv : σ[i]? = some (some x)) (hx : Sq H x xs) (f : V → V) (few : xs.length ≤ 1000)
    (hs : ∀ v H1, v ∈ xs → Same H H1 → ∀ P : VK, (∀ H2, Same H1 H2 → P (f v) H2) → te ((σ.set j none).set j (some v)) H1 P)
    (hd : ∀ D H1, Same H H1 → H D = none → H1 D = some (.lst (xs.map f)) → Q (.ref D) H1) : tLc (fun σ H R => iList K (tVar i) σ H R ∨ iTup K (tVar i) σ H R) (gName j) tYes te [j] σ H Q := by
  obtain ⟨a, rfl, h | h⟩ := hx
  · exact .inl (lcL hv (sqL_at h) f few hs hd)
  · exact .inr (lcT hv (sqT_at h) f few hs hd)
theorem r_all {D : Addr} {f : V → Bool} (h : H D = some (.lst (xs.map fun v => V.bl (f v)))) (q : Q (.bl (xs.all f)) H) : rAll K [.ref D] H Q := by
  refine ⟨D, xs.map f, rfl, sqL_at (by rw [h, List.map_map]; rfl), ?_⟩
  rw [List.all_map]; exact q
theorem Sq.len (h : Sq H x xs) (q : Q (.int xs.length) H) : rLenK K [x] H Q := by
  obtain ⟨a, rfl, h | h⟩ := h
  · exact r_len (.inl (sqL_at h)) q
  · exact r_len (.inr (sqT_at h)) q
theorem Sq.ix (h : Sq H x xs) {k : Int} {v : V} (e : atI xs k = some v) (q : Q v H) : rIx K x (.int k) H Q := by
  obtain ⟨a, rfl, h | h⟩ := h
  · exact .inl (r_ixL (sqL_at h) e q)
  · exact .inr (.inl (r_ixT (sqT_at h) e q))
end
end Jv

/-! ### sorted(t) of a tuple of ints -/
namespace JvS
open PySem PySem.Spec PyProof.Rows L2 SrtO
section
variable {P : Program} {w : World} {A : Around} {E : Value → Shared → Prop} {s : Shared}
/-- the list that collect makes -/
abbrev colH (h : Heap) (vs : List Value) : Heap := (h.push (seqObj "list" #[] 0)).update h.objs.size (Obj.mapSeq (· ++ vs.toArray))
theorem collect_tup {l : Addr} {vs : List Value} {Q : List Value → Shared → Prop} (hl : s.heap.IsTuple l vs.toArray) (h : Q vs { s with heap := colH s.heap vs }) (hsz : vs.length ≤ sizeLine) :
    wpAny (model P w) A (collect (.ref l)) Q E s := by
  obtain ⟨o, ho, hc, n, hd⟩ := id hl
  have ho2 : (s.heap.push (seqObj "list" #[] 0)).get? l = some o := Heap.get?_push_of_some _ ho
  have new : (s.heap.push (seqObj "list" #[] 0)).get? s.heap.objs.size = some (seqObj "list" #[] 0) := Heap.get?_push_size _ rfl
  unfold collect
  refine wpAny_bind (wpAny_runValue (codeAny_builtin entry_proto_collect' (show wpAny _ _ (do again (.builtin "list.__iadd__" ⟨[← newList [], .ref l], []⟩)) _ _ s from
    wpAny_bind (wpAny_newList (wpAny_pure ⟨Code.quiet_builtin _ (by decide +kernel), codeAny_builtin entry_list_iadd' ?_⟩)))))
  show wpAny _ _ (Builtin.List.listExtendWith (.ref s.heap.objs.size) (.ref l) (.ref s.heap.objs.size)) _ _ { s with heap := s.heap.push (seqObj "list" #[] 0) }
  unfold Builtin.List.listExtendWith
  refine wpAny_bind (wpAny_typeOf (T := "tuple") ⟨o, ho2, hc⟩ ?_)
  rw [if_pos (by have e : (Value.type "tuple" == Value.type "tuple") = true := rfl
                 rw [e]; simp)]
  refine wpAny_bind (listItems_at ho2 hd (wpAny_bind (listItems_at (xs := #[]) (n := 0) new rfl ?_)))
  rw [if_neg (by simp)]
  refine wpAny_bind (listUpdate_at (xs := #[]) (n := 0) new rfl (wpAny_pure ?_) (Nat.zero_le _) (by show (#[] ++ vs.toArray).size ≤ sizeLine + 1; simp; omega))
  show wpAny (model P w) A (do
      let o ← load s.heap.objs.size
      match o.data with
      | .seq ys _ => pure ys.toList
      | _ => unsupported "internal:collect") Q E { s with heap := colH s.heap vs }
  refine wpAny_bind (wpAny_load (get?_update_seq new _) (show wpAny _ _ (pure ((#[] : Array Value) ++ vs.toArray).toList) Q E _ from ?_))
  rw [show ((#[] : Array Value) ++ vs.toArray).toList = vs by simp]
  exact wpAny_pure h
theorem sorted_tup {l : Addr} {vs : List Value} {ltv : Value → Value → Bool} {Q : Value → Shared → Prop} (O : Swo ltv) (hl : s.heap.IsTuple l vs.toArray) (hz : vs.length ≤ sizeLine)
    (hS : 2 ≤ vs.length → ∀ (h₁ : Heap) (a : Addr), h₁.get? a = some (seqObj "list" vs.toArray 0) → (∀ b o, s.heap.get? b = some o → b ≠ a ∧ h₁.get? b = some o) → SortableO P w A.in1.in1 { s with heap := h₁ } a vs ltv)
    (h : ∀ out : List Value, Srtd ltv out → Stb ltv out vs → Q (.ref (s.heap.objs.size + 1)) { s with heap := sortedAll s.heap vs out.toArray }) :
    wpAny (model P w) A (call (.builtin "sorted") [.ref l]) Q E s := by
  refine Calls.call_function_entry kind_sorted plain_sorted entry_sorted (args_sorted1 _) ?_
  unfold Builtin.«sorted»
  refine wpAny_bind (m := checkCount "sorted" 1 1 _) (wpAny_pure (wpAny_bind (collect_tup hl (wpAny_bind (wpAny_newList ?_ hz)) hz)))
  have size1 : (colH s.heap vs).objs.size = s.heap.objs.size + 1 := by rw [Heap.size_update, size_push']
  have at2 : ((colH s.heap vs).push (seqObj "list" vs.toArray 0)).get? (s.heap.objs.size + 1) = some (seqObj "list" vs.toArray 0) := by
    rw [← size1]; exact Heap.get?_push_size _ rfl
  have old : ∀ b o, s.heap.get? b = some o → b ≠ s.heap.objs.size + 1 ∧ ((colH s.heap vs).push (seqObj "list" vs.toArray 0)).get? b = some o := fun b o q => by
    have lt := Heap.lt_size q
    refine ⟨Nat.ne_of_lt (Nat.lt_succ_of_lt lt), Heap.get?_push_of_some _ ?_⟩
    rw [Heap.get?_update_ne _ _ _ _ (Nat.ne_of_lt lt)]
    exact Heap.get?_push_of_some _ q
  show wpAny _ _ _ _ _ { s with heap := (colH s.heap vs).push (seqObj "list" vs.toArray 0) }
  rw [size1]
  refine wpAny_bind (wpAny_holding (wpAny_call_entry slot_list_sort ⟨_, at2, rfl⟩ entry_list_sort (list_sort_ord O at2 hz (fun h2 => hS h2 _ _ at2 old) fun out a b => ⟨_, rfl, wpAny_pure ⟨_, rfl, h out a b⟩⟩) (args_list_sort _)))
end
end JvS
namespace Jv
open PySem PySem.Spec PyProof.Rows L2
section
variable {X : Cx}
/-- sorted(x), x a list or a tuple of ints -/
def rSortIT (K : PySem.W.Frag) : List V → Hp → VK → Prop := fun vs H Q => ∃ (a : Addr) (ns : List Int), vs = [V.ref a] ∧ (SqL K H a (ns.map V.int) ∨ SqT K H a (ns.map V.int)) ∧
  ∀ (ns' : List Int) (p : Addr), ns'.Perm ns → ns'.Pairwise (· ≤ ·) → H p = none → Q (.ref p) (upd H p (.lst (ns'.map V.int)))
theorem cr_sortIT : CallR X (.builtin "sorted") (rSortIT X.K) := by
  intro pins s σ H vs us Q I r h
  obtain ⟨a, ns, rfl, hs | hs, q⟩ := h
  · exact cr_sortedI pins s σ H _ us Q I r ⟨a, ns, rfl, hs, q⟩
  · obtain ⟨its, rv, ht, hz⟩ := I.tuple hs
    rw [Vals.ref1 r]
    have hi := rv.ints
    rw [List.length_map] at hz
    have hz2 : its.length ≤ sizeLine := by rw [← rv.length, List.length_map]; exact hz
    refine JvS.sorted_tup SrtO.swo_int (show s.heap.IsTuple a its.toArray from ht) hz2 (fun h2 _ _ _ _ => SrtO.ints_sortable hi h2) fun out h1 h2 => ?_
    obtain ⟨k1, k2, k3⟩ := SrtO.ints_out hi h1 h2
    obtain ⟨ep, he⟩ := PyProof.Rows.sortedAll_at s.heap its out.toArray
    refine ⟨.ref _, upd H (s.heap.objs.size + 1) (.lst ((out.map SrtO.iv).map V.int)), I.laid (t' := s.toks) (fun _ _ => PyProof.Rows.sortedAll_old) (Nat.le_succ _) ⟨?_, out, ep, vals_of_ints k1, he⟩, rfl, q _ _ k2 k3 (I.hok.fresh (Nat.le_succ _))⟩
    rw [List.length_map, k2.length_eq]; exact hz
end
/-! ### data of ints -/
theorem canAll_ints : ∀ ns : List Int, PyData.canLayAll0 (ns.map PyData.int) = true
  | [] => by simp [PyData.canLayAll0]
  | a :: r => by simp [PyData.canLayAll0, PyData.canLay0, canAll_ints r]
theorem depAll_ints : ∀ ns : List Int, PyData.depthAll (ns.map PyData.int) = 0
  | [] => by simp [PyData.depthAll]
  | a :: r => by simp [PyData.depthAll, PyData.depth, depAll_ints r]
theorem shapedL (ns : List Int) : SeqAt.shaped (.list (ns.map .int)) = true := by simp [SeqAt.shaped, PyData.canLay0, PyData.depth, canAll_ints, depAll_ints]
theorem shapedT (ns : List Int) : SeqAt.shaped (.tuple (ns.map .int)) = true := by simp [SeqAt.shaped, PyData.canLay0, PyData.depth, canAll_ints, depAll_ints]
theorem eqvAll_ints : ∀ a b : List Int, PyData.eqvAll (a.map .int) (b.map .int) = decide (a = b)
  | [], [] => by simp [PyData.eqvAll]
  | [], _ :: _ => by simp [PyData.eqvAll]
  | _ :: _, [] => by simp [PyData.eqvAll]
  | x :: a, y :: b => by
    simp only [List.map_cons, PyData.eqvAll, PyData.eqv, eqvAll_ints a b]
    by_cases h : x = y <;> by_cases g : a = b <;> simp [h, g]
theorem eqvL (a b : List Int) : PyData.eqv (.list (a.map .int)) (.list (b.map .int)) = decide (a = b) := by rw [PyData.eqv, eqvAll_ints]
theorem eqvT (a b : List Int) : PyData.eqv (.tuple (a.map .int)) (.tuple (b.map .int)) = decide (a = b) := by rw [PyData.eqv, eqvAll_ints]
section
variable {K : PySem.W.Frag} {H : Hp}
theorem dpAll_ints : ∀ ns : List Int, DpAll K H (ns.map V.int) (ns.map PyData.int)
  | [] => .nil
  | a :: r => .cons (.int a) (dpAll_ints r)
theorem dpL {a : Addr} {ns : List Int} (h : SqL K H a (ns.map V.int)) : Dp K H (.ref a) (.list (ns.map .int)) := .lst h (dpAll_ints ns)
theorem dpT {a : Addr} {ns : List Int} (h : SqT K H a (ns.map V.int)) : Dp K H (.ref a) (.tuple (ns.map .int)) := .tup h (dpAll_ints ns)
end
end Jv

/-! ### kinds, lots, orders -/
namespace Jv
open PySem PySem.Spec PyProof.Rows L2
def intsV : List V → Option (List Int)
  | [] => some []
  | .int i :: r => (intsV r).map (i :: ·)
  | _ :: _ => none
theorem iv_map : ∀ ns : List Int, intsV (ns.map V.int) = some ns
  | [] => rfl
  | a :: r => by simp [intsV, iv_map r]
theorem iv_of : ∀ {xs : List V} {ns : List Int}, intsV xs = some ns → xs = ns.map V.int
  | [], ns, h => by cases h; rfl
  | .int i :: r, ns, h => by
    cases e : intsV r with
    | none => simp [intsV, e] at h
    | some m => simp [intsV, e] at h; subst h; rw [iv_of e]; rfl
  | .non :: _, _, h => by cases h
  | .bl _ :: _, _, h => by cases h
  | .str _ :: _, _, h => by cases h
  | .byt _ :: _, _, h => by cases h
  | .flt _ :: _, _, h => by cases h
  | .ref _ :: _, _, h => by cases h
  | .ty _ :: _, _, h => by cases h
/-- what a sequence's items must be for the program to look at them -/
def ThS (H : Hp) (x : V) : Prop := Th H x ∧ ∀ xs, Sq H x xs → xs.length ≤ 60 ∧ ∀ v ∈ xs, Th H v
theorem ThS.same {H H' : Hp} {x : V} (h : ThS H x) (s : Same H H') : ThS H' x := ⟨h.1.same s, fun xs q => by
  have e := q.of
  rw [sqOf_same h.1 s] at e
  obtain ⟨a, b⟩ := h.2 xs (sq_some e)
  exact ⟨a, fun v m => (b v m).same s⟩⟩
def kindsB (H : Hp) (x : V) (k : Int) : Bool := match sqOf H x with
  | some xs => xs.all fun v => wholeV v (.int 0) (.int (k - 1))
  | none => false
def inK (k : Int) (ns : List Int) : Prop := ∀ n ∈ ns, 0 ≤ n ∧ n ≤ k - 1
theorem whole_all {k : Int} : ∀ {xs : List V}, (xs.all fun v => wholeV v (.int 0) (.int (k - 1))) = true → ∃ ns, xs = ns.map V.int ∧ inK k ns
  | [], _ => ⟨[], rfl, fun _ h => by cases h⟩
  | x :: r, h => by
    rw [List.all_cons, Bool.and_eq_true] at h
    obtain ⟨i, rfl, h1, h2⟩ := wholeV_int h.1
    obtain ⟨ns, rfl, h3⟩ := whole_all h.2
    refine ⟨i :: ns, rfl, fun n hn => ?_⟩
    rcases List.mem_cons.mp hn with rfl | hn
    · exact ⟨h1, h2⟩
    · exact h3 n hn
theorem all_whole {k : Int} {ns : List Int} (h : inK k ns) : ((ns.map V.int).all fun v => wholeV v (.int 0) (.int (k - 1))) = true := by
  rw [List.all_map, List.all_eq_true]
  intro n hn
  obtain ⟨a, b⟩ := h n hn
  show (decide (0 ≤ n) && decide (n ≤ k - 1)) = true
  rw [decide_eq_true a, decide_eq_true b]; rfl
instance {k : Int} {ns : List Int} : Decidable (inK k ns) := inferInstanceAs (Decidable (∀ n ∈ ns, _))
theorem whole_all_iff {k : Int} {ns : List Int} : ((ns.map V.int).all fun v => wholeV v (.int 0) (.int (k - 1))) = decide (inK k ns) := by
  by_cases h : inK k ns
  · rw [all_whole h, decide_eq_true h]
  · rw [decide_eq_false h]
    cases e : (ns.map V.int).all fun v => wholeV v (.int 0) (.int (k - 1)) with
    | false => rfl
    | true =>
      obtain ⟨ms, e2, h2⟩ := whole_all e
      have e3 : ns = ms := by have q := iv_map ns; rw [e2, iv_map] at q; cases q; rfl
      exact absurd (e3 ▸ h2) h
theorem sorted_ext : ∀ {a b : List Int}, a.Pairwise (· < ·) → b.Pairwise (· < ·) → (∀ n, n ∈ a ↔ n ∈ b) → a = b
  | [], [], _, _, _ => rfl
  | [], y :: _, _, _, h => absurd ((h y).mpr List.mem_cons_self) (by simp)
  | x :: _, [], _, _, h => absurd ((h x).mp List.mem_cons_self) (by simp)
  | x :: a, y :: b, ha, hb, h => by
    have ha' := List.pairwise_cons.mp ha
    have hb' := List.pairwise_cons.mp hb
    have e : x = y := by
      rcases List.mem_cons.mp ((h x).mp List.mem_cons_self) with e | m1
      · exact e
      · rcases List.mem_cons.mp ((h y).mpr List.mem_cons_self) with e | m2
        · exact e.symm
        · have q1 := hb'.1 x m1
          have q2 := ha'.1 y m2
          omega
    subst e
    congr 1
    refine sorted_ext ha'.2 hb'.2 fun n => ⟨fun m => ?_, fun m => ?_⟩
    · rcases List.mem_cons.mp ((h n).mp (List.mem_cons_of_mem _ m)) with e | q
      · subst e; exact absurd (ha'.1 n m) (by omega)
      · exact q
    · rcases List.mem_cons.mp ((h n).mpr (List.mem_cons_of_mem _ m)) with e | q
      · subst e; exact absurd (hb'.1 n m) (by omega)
      · exact q
def lotP (k : Int) (ns : List Int) : Prop := inK k ns ∧ 0 < ns.length ∧ ns.Pairwise (· < ·)
instance {k : Int} {ns : List Int} : Decidable (lotP k ns) := inferInstanceAs (Decidable (_ ∧ _))
def lotV (H : Hp) (x : V) (k : Int) : Bool := match sqOf H x with
  | some xs => match intsV xs with
    | some ns => decide (lotP k ns)
    | none => false
  | none => false
theorem set_eq {ns ms : List Int} (h1 : ms.Pairwise (· < ·)) (h2 : ∀ k : Int, k ∈ ms ↔ decide (k ∈ ns) = true) : (ns = ms) ↔ ns.Pairwise (· < ·) :=
  ⟨fun e => e ▸ h1, fun h => sorted_ext h h1 fun n => by rw [h2 n, decide_eq_true_iff]⟩
def orderP (k : Int) (ns : List Int) : Prop := inK k ns ∧ ns.Perm ((List.range k.toNat).map fun (i : Nat) => (i : Int))
instance {k : Int} {ns : List Int} : Decidable (orderP k ns) := inferInstanceAs (Decidable (_ ∧ _))
theorem range_sorted (n : Nat) : ((List.range n).map fun (i : Nat) => (i : Int)).Pairwise (· ≤ ·) := by
  rw [List.pairwise_map]
  exact List.pairwise_lt_range.imp fun h => by omega
theorem sorted_perm {a b : List Int} (ha : a.Pairwise (· ≤ ·)) (hb : b.Pairwise (· ≤ ·)) (h : a.Perm b) : a = b :=
  List.Perm.eq_of_pairwise (fun x y _ _ h1 h2 => by omega) ha hb h
def orderV (H : Hp) (x : V) (k : Int) : Bool := match sqOf H x with
  | some xs => match intsV xs with
    | some ns => decide (orderP k ns)
    | none => false
  | none => false
end Jv
namespace Jv
open PySem PySem.Spec PyProof.Rows L2
section
variable {H : Hp} {x : V} {k : Int} {ns : List Int}
theorem lotV_of (e : sqOf H x = some (ns.map V.int)) : lotV H x k = decide (lotP k ns) := by
  unfold lotV; rw [e]; dsimp only; rw [iv_map]
theorem orderV_of (e : sqOf H x = some (ns.map V.int)) : orderV H x k = decide (orderP k ns) := by
  unfold orderV; rw [e]; dsimp only; rw [iv_map]
theorem kindsB_of (e : sqOf H x = some (ns.map V.int)) : kindsB H x k = decide (inK k ns) := by
  unfold kindsB; rw [e]; exact whole_all_iff
theorem kindsB_true (h : kindsB H x k = true) : ∃ ns, sqOf H x = some (ns.map V.int) ∧ inK k ns := by
  unfold kindsB at h
  cases e : sqOf H x with
  | none => rw [e] at h; cases h
  | some xs =>
    rw [e] at h
    obtain ⟨ns, rfl, q⟩ := whole_all h
    exact ⟨ns, rfl, q⟩
theorem lotV_false (h : kindsB H x k = false) : lotV H x k = false := by
  cases e : sqOf H x with
  | none => unfold lotV; rw [e]
  | some xs =>
    cases e2 : intsV xs with
    | none => unfold lotV; rw [e]; dsimp only; rw [e2]
    | some ns =>
      obtain rfl := iv_of e2
      rw [lotV_of e, decide_eq_false]
      rintro ⟨h1, _⟩
      rw [kindsB_of e, decide_eq_true h1] at h; cases h
theorem orderV_false (h : kindsB H x k = false) : orderV H x k = false := by
  cases e : sqOf H x with
  | none => unfold orderV; rw [e]
  | some xs =>
    cases e2 : intsV xs with
    | none => unfold orderV; rw [e]; dsimp only; rw [e2]
    | some ns =>
      obtain rfl := iv_of e2
      rw [orderV_of e, decide_eq_false]
      rintro ⟨h1, _⟩
      rw [kindsB_of e, decide_eq_true h1] at h; cases h
theorem lotV_true (h : lotV H x k = true) : ∃ ns, sqOf H x = some (ns.map V.int) ∧ lotP k ns := by
  cases e : sqOf H x with
  | none => unfold lotV at h; rw [e] at h; cases h
  | some xs =>
    cases e2 : intsV xs with
    | none => unfold lotV at h; rw [e] at h; dsimp only at h; rw [e2] at h; cases h
    | some ns =>
      obtain rfl := iv_of e2
      rw [lotV_of e] at h
      exact ⟨ns, rfl, of_decide_eq_true h⟩
theorem Sq.or {K : PySem.W.Frag} {a : Addr} {xs : List V} (h : H a = some (.lst xs) ∨ H a = some (.tup xs)) : SqL K H a xs ∨ SqT K H a xs := h.elim (fun h => .inl (sqL_at h)) fun h => .inr (sqT_at h)
end
end Jv
namespace Jv
open PySem PySem.Spec PyProof.Rows L2
theorem rgV0 {k : Int} : rgV 0 k = ((List.range k.toNat).map fun (i : Nat) => (i : Int)).map V.int := by
  unfold rgV
  rw [List.map_map, Int.sub_zero]
  refine List.map_congr_left fun i _ => ?_
  show V.int (0 + (i : Int)) = V.int i
  rw [Int.zero_add]
end Jv

/-! ### pairs of two ranges; data as lists of pairs -/
namespace Jv
open PySem PySem.Spec PyProof.Rows L2
/-- references to tuples of two ints that stand -/
def Tups (H : Hp) (refs : List V) (prs : List (Int × Int)) : Prop := Paired (fun v (pr : Int × Int) => ∃ t, v = V.ref t ∧ H t = some (.tup [.int pr.1, .int pr.2])) refs prs
theorem Paired.mono' {α β : Type} {F G : α → β → Prop} (h : ∀ a b, F a b → G a b) : ∀ {xs : List α} {ys : List β}, Paired F xs ys → Paired G xs ys
  | _, _, .nil => .nil
  | _, _, .cons r t => .cons (h _ _ r) (Paired.mono' h t)
theorem Paired.snoc {α β : Type} {F : α → β → Prop} {a : α} {b : β} (h : F a b) : ∀ {xs : List α} {ys : List β}, Paired F xs ys → Paired F (xs ++ [a]) (ys ++ [b])
  | _, _, .nil => .cons h .nil
  | _, _, .cons r t => .cons r (Paired.snoc h t)
theorem Tups.same {H H' : Hp} {refs : List V} {prs : List (Int × Int)} (h : Tups H refs prs) (s : Same H H') : Tups H' refs prs := Paired.mono' (fun _ _ ⟨t, e, q⟩ => ⟨t, e, s _ _ q⟩) h
theorem Tups.upd {H : Hp} {D : Addr} {o : HO} {refs : List V} {prs : List (Int × Int)} (h : Tups H refs prs) (n : ∀ xs, H D ≠ some (.tup xs)) : Tups (L2.upd H D o) refs prs :=
  Paired.mono' (fun _ _ ⟨t, e, q⟩ => ⟨t, e, by rw [upd_ne]; exact q; intro z; rw [z] at q; exact n _ q⟩) h
def pairsTo (q i j : Nat) : List (Int × Int) := ((List.range i).flatMap fun (e : Nat) => (List.range q).map fun (w : Nat) => ((e : Int), (w : Int))) ++ (List.range j).map fun (w : Nat) => ((i : Int), (w : Int))
def prs (p q : Nat) : List (Int × Int) := pairsTo q p 0
theorem pairsTo_next (q i : Nat) : pairsTo q i q = pairsTo q (i + 1) 0 := by
  unfold pairsTo
  rw [List.range_succ, List.flatMap_append]
  simp
theorem pairsTo_more (q i j : Nat) : pairsTo q i (j + 1) = pairsTo q i j ++ [((i : Int), (j : Int))] := by
  unfold pairsTo
  rw [List.range_succ (n := j), List.map_append, List.append_assoc]; rfl
theorem pairsTo_len (q i j : Nat) : (pairsTo q i j).length = i * q + j := by
  unfold pairsTo
  rw [List.length_append, List.length_map, List.length_range]
  congr 1
  induction i with
  | zero => simp
  | succ i ih => rw [List.range_succ, List.flatMap_append, List.length_append, ih]; simp [Nat.succ_mul]
section
variable {σ : L2.St} {H : Hp} {ta tb : TA} {te : TE} {Q : VK} {a b p q : Nat}
theorem lc2R (hp : p ≤ 20) (hq : q ≤ 20) (w1 : ∀ x, wipe ((wipe σ [a, b]).set a (some x)) [a, b] = wipe σ [a, b])
    (w2 : ∀ x y, wipe ((wipe ((wipe σ [a, b]).set a (some x)) [b]).set b (some y)) [b] = wipe ((wipe σ [a, b]).set a (some x)) [b])
    (hta : ∀ P : List V → Hp → Prop, P [.int p] H → ta σ H P)
    (htb : ∀ (i : Nat) H1, i < p → Same H H1 → ∀ P : List V → Hp → Prop, P [.int q] H1 → tb ((wipe σ [a, b]).set a (some (.int i))) H1 P)
    (hte : ∀ (i j : Nat) H1, i < p → j < q → Same H H1 → ∀ P : VK, (∀ t H2, Same H1 H2 → H1 t = none → H2 t = some (.tup [.int i, .int j]) → P (.ref t) H2) → te ((wipe ((wipe σ [a, b]).set a (some (.int i))) [b]).set b (some (.int j))) H1 P)
    (hd : ∀ D refs H1, Same H H1 → H D = none → H1 D = some (.lst refs) → Tups H1 refs (prs p q) → Q (.ref D) H1) :
    tLc2 (iRng1 ta) (gName a) tYes (iRng1 tb) (gName b) tYes te [a, b] [b] σ H Q := by
  refine hta _ ⟨p, rfl, by omega, by omega, fun D hD => ?_⟩
  have key : ∀ (i j : Nat) H1, (∃ refs, Same H H1 ∧ H1 D = some (.lst refs) ∧ Tups H1 refs (pairsTo q i j)) → ∃ refs, Same H H1 ∧ H1 D = some (.lst refs) ∧ Tups H1 refs (pairsTo q i j) := fun _ _ _ h => h
  refine ⟨fun i m H1 => m = p - i ∧ i ≤ p ∧ ∃ refs, Same H H1 ∧ H1 D = some (.lst refs) ∧ Tups H1 refs (pairsTo q i 0), ⟨p, by omega, by omega, [], same_new hD, upd_same, .nil⟩, ?_⟩
  rintro i m H1 ⟨rfl, hi, refs, s1, e1, t1⟩
  by_cases lt : i < p
  · refine .inr ⟨by show i < (p : Int).toNat; omega, fun H' => ∃ refs, Same H H' ∧ H' D = some (.lst refs) ∧ Tups H' refs (pairsTo q (i + 1) 0), fun H' h => ⟨p - (i + 1), by omega, rfl, lt, h⟩, ?_⟩
    rintro x H2 ⟨rfl, rfl⟩
    rw [Int.zero_add]
    refine ⟨w1 _, r_yes (r_true (c := true) rfl ?_)⟩
    refine htb i _ lt s1 _ ⟨q, rfl, by omega, by omega, ?_⟩
    refine ⟨fun j k H1 => k = q - j ∧ j ≤ q ∧ ∃ refs, Same H H1 ∧ H1 D = some (.lst refs) ∧ Tups H1 refs (pairsTo q i j), ⟨q, by omega, by omega, refs, s1, e1, t1⟩, ?_⟩
    rintro j k H3 ⟨rfl, hj, refs, s3, e3, t3⟩
    by_cases lt2 : j < q
    · refine .inr ⟨by show j < (q : Int).toNat; omega, fun H' => ∃ refs, Same H H' ∧ H' D = some (.lst refs) ∧ Tups H' refs (pairsTo q i (j + 1)), fun H' h => ⟨q - (j + 1), by omega, rfl, lt2, h⟩, ?_⟩
      rintro y H4 ⟨rfl, rfl⟩
      rw [Int.zero_add]
      refine ⟨w2 _ _, r_yes (r_true (c := true) rfl ?_)⟩
      refine hte i j _ lt lt2 s3 _ fun t H5 s5 ht h5 => ⟨refs, s5 _ _ e3, ?_, refs ++ [.ref t], ?_, upd_same, ?_⟩
      · have h1 := Paired.length t3
        have h2 := pairsTo_len q i j
        have h3 : i * q ≤ 20 * 20 := Nat.mul_le_mul (by omega) (by omega)
        exact small_lt (by omega)
      · intro c o hc
        exact kpO (s5 _ _ (s3 _ _ hc)) (ne_of_none hc hD)
      · rw [pairsTo_more]
        refine Tups.upd (Paired.snoc ⟨t, rfl, h5⟩ (t3.same s5)) fun xs z => ?_
        have := s5 _ _ e3
        rw [this] at z; cases z
    · have ej : j = q := by omega
      subst ej
      refine .inl ⟨by show (j : Int).toNat ≤ j; omega, refs, s3, e3, ?_⟩
      rw [← pairsTo_next]; exact t3
  · have ei : i = p := by omega
    subst ei
    exact .inl ⟨by show (i : Int).toNat ≤ i; omega, hd D refs _ s1 hD e1 t1⟩
end
end Jv
namespace Jv
open PySem PySem.Spec PyProof.Rows L2
theorem log_small {m : Int} (h0 : 0 < m) (h1 : m < 2 ^ 200) : m.natAbs.log2 < 9000 := Nat.lt_trans (PySem.Flt.log2_lt_of (n := m.natAbs) (k := 200) (by decide) (by omega)) (by decide)
theorem cdivS {i m : Int} (h0 : 0 < m) (h1 : m < 2 ^ 200) : CDivW i m := ⟨h0, log_small h0 h1⟩
end Jv
namespace Jv
open PySem PySem.Spec PyProof.Rows L2
section
variable {K : PySem.W.Frag} {σ : L2.St} {H : Hp} {Q : VK} {to : TE} {t : TA} {y : V}
theorem r_bm {T : String} {r : V → List V → Hp → VK → Prop} (h : to σ H fun x H1 => tyV K T x H1 ∧ t σ H1 fun xs H2 => r x xs H2 Q) : tBM K T r to t σ H Q := h
theorem r_tyL {p : Addr} {xs : List V} {P : Prop} (h : H p = some (.lst xs)) (q : P) : tyV K "list" (.ref p) H ∧ P := ⟨.inl ⟨rfl, xs, sqL_at h⟩, q⟩
theorem r_app {l : Addr} {xs : List V} (h : H l = some (.lst xs)) (hz : xs.length < 1000) (q : Q .non (upd H l (.lst (xs ++ [y])))) : rAppend (.ref l) [y] H Q := ⟨l, xs, y, rfl, rfl, h, small_lt hz, q⟩
theorem seqIx {k : Int} {n : Nat} (h0 : 0 ≤ k) (h1 : k.toNat < n) : seqIndex? k n = some k.toNat := by
  unfold seqIndex?
  simp; omega
theorem r_popAt {l : Addr} {xs : List V} {k : Int} (h : H l = some (.lst xs)) (h0 : 0 ≤ k) (h1 : k < 1000) (e : xs[k.toNat]? = some y) (q : Q y (upd H l (.lst (xs.eraseIdx k.toNat)))) : rPopAt (.ref l) [.int k] H Q :=
  ⟨l, xs, k, k.toNat, y, rfl, rfl, h, by omega, by omega, seqIx h0 (List.getElem?_eq_some_iff.mp e).1, e, q⟩
theorem erase_perm : ∀ {l : List Int} {k : Nat} {z : Int}, l[k]? = some z → (z :: l.eraseIdx k).Perm l
  | [], k, z, h => by simp at h
  | a :: r, 0, z, h => by
    have e : a = z := Option.some.inj h
    subst e; exact .refl _
  | a :: r, k + 1, z, h => (List.Perm.swap a z _).trans (List.Perm.cons a (erase_perm (l := r) (k := k) h))
theorem pop_perm {ns ms : List Int} {k : Nat} {z : Int} (e : ms[k]? = some z) : ((ns ++ [z]) ++ ms.eraseIdx k).Perm (ns ++ ms) := by
  rw [List.append_assoc]
  exact List.Perm.append_left ns (erase_perm e)
def rgI (n : Nat) : List Int := (List.range n).map fun (i : Nat) => (i : Int)
end
theorem rises_no {ns : List Int} {k b z : Int} {i : Nat} (hz : ns[i]? = some z) (hb : b = -1 ∨ b ∈ ns.take i) (h : ¬ (b < z ∧ z < k)) : ¬ lotP k ns := fun ⟨h1, _, h3⟩ => by
  obtain ⟨a0, a1⟩ := h1 z (List.mem_of_getElem? hz)
  refine h ⟨?_, by omega⟩
  rcases hb with rfl | hb
  · omega
  · obtain ⟨hi, rfl⟩ := List.getElem?_eq_some_iff.mp hz
    rw [← List.take_append_drop i ns, List.pairwise_append] at h3
    exact h3.2.2 b hb _ (by rw [List.mem_iff_getElem]; exact ⟨0, by rw [List.length_drop]; omega, by simp⟩)
end Jv
namespace Jv
open PySem PySem.Spec PyProof.Rows L2
theorem erase_map : ∀ (l : List Int) (j : Nat), (l.map V.int).eraseIdx j = (l.eraseIdx j).map V.int
  | [], _ => rfl
  | _ :: _, 0 => rfl
  | a :: r, j + 1 => congrArg (V.int a :: ·) (erase_map r j)
end Jv

/-! ### keyword calls, dict displays, things that are refused -/
namespace Jv
open PySem PySem.Spec PyProof.Rows L2
section
variable {K : PySem.W.Frag} {σ : L2.St} {H : Hp} {t tk : TA} {te tv : TE} {Q : VK} {A B : Prop}
theorem r_callN {n m : Nat} {sp : Sp} {gV : List V → List V → List V} {E : XK} (h : t σ H fun vs H1 => tk σ H1 fun zs H2 => vs.length = n ∧ zs.length = m ∧ sp (gV vs zs) H2 Q E) : tCallN n m sp gV E t tk σ H Q := h
theorem r_disp1 {k v : Int} (q : ∀ p, H p = none → Q (.ref p) (upd H p (.dK [(.inl k, .int v)]))) : tDisp [(tC (.int k), tC (.int v))] σ H Q := fun p hp =>
  ⟨upd_same, [(.inl k, .int v)], rfl, Nat.le_of_ble_eq_true rfl, by rw [upd_upd]; exact q p hp⟩
theorem r_disp2 {k v k' v' : Int} (ne : k ≠ k') (q : ∀ p, H p = none → Q (.ref p) (upd H p (.dK [(.inl k, .int v), (.inl k', .int v')]))) : tDisp [(tC (.int k), tC (.int v)), (tC (.int k'), tC (.int v'))] σ H Q := fun p hp =>
  ⟨upd_same, [(.inl k, .int v), (.inl k', .int v')], rfl, Nat.le_of_ble_eq_true rfl, by
    rw [upd_upd]
    have e : mergeK ([] : List (Key × V)) [(.inl k, .int v), (.inl k', .int v')] = [(.inl k, .int v), (.inl k', .int v')] := by
      simp [mergeK, putK, ne]
    rw [e]; exact q p hp⟩
theorem r_same {b : Bool} (q : B) : if (!decide (b = b)) = true then A else B := r_false (by rw [decide_eq_true rfl]; rfl) q
theorem r_same' {b c : Bool} (e : b = c) (q : B) : if (!decide (b = c)) = true then A else B := by subst e; exact r_same q
/-- the same, in a condition that is not yet an if -/
theorem r_dsame {P : Bool → Prop} {b : Bool} (q : P true) : P (decide (b = b)) := by rw [decide_eq_true rfl]; exact q
theorem r_and_k {te ta : TE} {c : Bool} (h : te σ H fun x H1 => ∃ c, x = .bl c ∧ if c = true then ta σ H1 Q else Q (.bl false) H1) : tAndV te ta σ H Q := h
end
/-- a thing that is neither a lot nor an order nor sides nor a couple -/
def BadTh (H : Hp) (x : V) : Prop := ThS H x ∧ ∀ xs, sqOf H x = some xs → intsV xs = none
theorem BadTh.same {H H' : Hp} {x : V} (h : BadTh H x) (s : Same H H') : BadTh H' x := ⟨h.1.same s, fun xs e => h.2 xs (by rw [← sqOf_same h.1.1 s]; exact e)⟩
theorem BadTh.lot {H : Hp} {x : V} {k : Int} (h : BadTh H x) : lotV H x k = false := by
  unfold lotV
  cases e : sqOf H x with
  | none => rfl
  | some xs => dsimp only; rw [h.2 xs e]
theorem BadTh.order {H : Hp} {x : V} {k : Int} (h : BadTh H x) : orderV H x k = false := by
  unfold orderV
  cases e : sqOf H x with
  | none => rfl
  | some xs => dsimp only; rw [h.2 xs e]
section
variable {H : Hp}
theorem bad_sc {x : V} (h : Th H x) (n : sqOf H x = none) : BadTh H x := ⟨⟨h, fun xs q => by rw [q.of] at n; cases n⟩, fun xs e => by rw [n] at e; cases e⟩
theorem bad_dK {a : Addr} {kvs : List (Key × V)} (h : H a = some (.dK kvs)) : BadTh H (.ref a) := bad_sc (.inr (.inr ⟨_, h⟩)) (by simp [sqOf, h])
theorem bad_sq {a : Addr} {xs : List V} (h : H a = some (.lst xs) ∨ H a = some (.tup xs)) (few : xs.length ≤ 60) (th : ∀ v ∈ xs, Th H v) (n : intsV xs = none) : BadTh H (.ref a) := by
  have sq : Sq H (.ref a) xs := ⟨a, rfl, h⟩
  refine ⟨⟨sq.th, fun ys q => ?_⟩, fun ys e => ?_⟩
  · have e := q.of; rw [sq.of] at e; cases e; exact ⟨few, th⟩
  · rw [sq.of] at e; cases e; exact n
theorem thS_ints {a : Addr} {ns : List Int} (h : H a = some (.lst (ns.map V.int)) ∨ H a = some (.tup (ns.map V.int))) (few : ns.length ≤ 60) : ThS H (.ref a) := by
  have sq : Sq H (.ref a) (ns.map V.int) := ⟨a, rfl, h⟩
  refine ⟨sq.th, fun ys q => ?_⟩
  have e := q.of; rw [sq.of] at e; cases e
  refine ⟨by rw [List.length_map]; exact few, fun v hv => ?_⟩
  obtain ⟨i, _, rfl⟩ := List.mem_map.mp hv
  trivial
theorem wholeV_not {x lo hi : V} (h : isI x = false) : wholeV x lo hi = false := by
  cases x with
  | int i => cases h
  | _ => rfl
theorem shaped_bad {d : PyData} (h : PyData.canLay0 d = true) (h2 : PyData.depth d = 0) : SeqAt.shaped (.list [.str "bad", d]) = true := by
  simp [SeqAt.shaped, PyData.canLay0, PyData.depth, PyData.canLayAll0, PyData.depthAll, h, h2]; decide +kernel
end
end Jv

/-! ### data: none, truths, whole numbers, texts, lists that stand, tuples that stand or are the program's own -/
namespace Jv
open PySem PySem.Spec PyProof.Rows L2
mutual
inductive Dv (K : PySem.W.Frag) (H : Hp) : V → PyData → Prop
  | non : Dv K H .non .none
  | bl (b : Bool) : Dv K H (.bl b) (.bool b)
  | int (i : Int) : Dv K H (.int i) (.int i)
  | str (x : Str) : Dv K H (.str x) (.str x)
  | lst {a : Addr} {xs : List V} {ds : List PyData} : H a = some (.lst xs) → DvAll K H xs ds → Dv K H (.ref a) (.list ds)
  | tup {a : Addr} {xs : List V} {ds : List PyData} : SqT K H a xs → DvAll K H xs ds → Dv K H (.ref a) (.tuple ds)
inductive DvAll (K : PySem.W.Frag) (H : Hp) : List V → List PyData → Prop
  | nil : DvAll K H [] []
  | cons {v : V} {vs : List V} {d : PyData} {ds : List PyData} : Dv K H v d → DvAll K H vs ds → DvAll K H (v :: vs) (d :: ds)
end
mutual
theorem Dv.same {K : PySem.W.Frag} {H H' : Hp} (s : Same H H') : ∀ {v : V} {d : PyData}, Dv K H v d → Dv K H' v d
  | _, _, .non => .non
  | _, _, .bl b => .bl b
  | _, _, .int i => .int i
  | _, _, .str x => .str x
  | _, _, .lst h q => .lst (s _ _ h) (DvAll.same s q)
  | _, _, .tup h q => .tup (Jv.Same.sqT s h) (DvAll.same s q)
theorem DvAll.same {K : PySem.W.Frag} {H H' : Hp} (s : Same H H') : ∀ {vs : List V} {ds : List PyData}, DvAll K H vs ds → DvAll K H' vs ds
  | _, _, .nil => .nil
  | _, _, .cons a b => .cons (Dv.same s a) (DvAll.same s b)
end
mutual
theorem Dv.dp {K : PySem.W.Frag} {H : Hp} : ∀ {v : V} {d : PyData}, Dv K H v d → Dp K H v d
  | _, _, .non => .non
  | _, _, .bl b => .bl b
  | _, _, .int i => .int i
  | _, _, .str x => .str x
  | _, _, .lst h q => .lst (sqL_at h) (DvAll.dp q)
  | _, _, .tup h q => .tup h (DvAll.dp q)
theorem DvAll.dp {K : PySem.W.Frag} {H : Hp} : ∀ {vs : List V} {ds : List PyData}, DvAll K H vs ds → DpAll K H vs ds
  | _, _, .nil => .nil
  | _, _, .cons a b => .cons (Dv.dp a) (DvAll.dp b)
end
section
variable {K : PySem.W.Frag} {H : Hp} {v : V} {d : PyData} {vs : List V} {ds : List PyData}
theorem DvAll.len : ∀ {vs : List V} {ds : List PyData}, DvAll K H vs ds → vs.length = ds.length
  | _, _, .nil => rfl
  | _, _, .cons _ b => congrArg (· + 1) (DvAll.len b)
theorem DvAll.snoc (h : Dv K H v d) : ∀ {vs : List V} {ds : List PyData}, DvAll K H vs ds → DvAll K H (vs ++ [v]) (ds ++ [d])
  | _, _, .nil => .cons h .nil
  | _, _, .cons a b => .cons a (DvAll.snoc h b)
theorem DvAll.at : ∀ {vs : List V} {ds : List PyData} {i : Nat} {v : V}, DvAll K H vs ds → vs[i]? = some v → ∃ d, ds[i]? = some d ∧ Dv K H v d
  | _, _, _, _, .nil, e => by simp at e
  | _, _, 0, _, .cons a _, e => by
    simp at e; subst e; exact ⟨_, rfl, a⟩
  | _, _, i + 1, _, .cons _ b, e => by
    simp at e ⊢; exact DvAll.at b e
theorem DvAll.of : ∀ {vs : List V} {ds : List PyData} {i : Nat} {d : PyData}, DvAll K H vs ds → ds[i]? = some d → ∃ v, vs[i]? = some v ∧ Dv K H v d
  | _, _, _, _, .nil, e => by simp at e
  | _, _, 0, _, .cons a _, e => by
    simp at e; subst e; exact ⟨_, rfl, a⟩
  | _, _, i + 1, _, .cons _ b, e => by
    simp at e ⊢; exact DvAll.of b e
theorem dv_ints : ∀ ns : List Int, DvAll K H (ns.map V.int) (ns.map PyData.int)
  | [] => .nil
  | a :: r => .cons (.int a) (dv_ints r)
end
/-- what sort a thing is -/
def tyD : PyData → String
  | .none => "NoneType"
  | .bool _ => "bool"
  | .int _ => "int"
  | .str _ => "str"
  | .list _ => "list"
  | .tuple _ => "tuple"
  | _ => "object"
def boolD : PyData → Bool
  | .bool _ => true
  | _ => false
def intD : PyData → Bool
  | .int _ => true
  | _ => false
def seqD : PyData → Option (List PyData)
  | .list xs => some xs
  | .tuple xs => some xs
  | _ => none
section
variable {K : PySem.W.Frag} {H : Hp} {v : V} {d : PyData} {Q : VK}
theorem SqT.tyX {a : Addr} {xs : List V} (h : SqT K H a xs) : TyX K H (.ref a) (.type "tuple") := by
  rcases h with (h | ⟨o, h⟩) | ⟨o, its, n, h, c, _⟩
  · exact .base (.tup h)
  · exact .fTuple h
  · exact .kTuple h c
theorem Dv.ty (h : Dv K H v d) : TyX K H v (.type (tyD d)) := by
  cases h with
  | non => exact .base .non
  | bl b => exact .base (.bl b)
  | int i => exact .base (.int i)
  | str x => exact .base (.str x)
  | lst h _ => exact .base (.lst h)
  | tup h _ => exact SqT.tyX h
theorem Dv.kits (h : Dv K H v d) : kitB (tyD d) "bool" = some (boolD d) ∧ kitB (tyD d) "int" = some (boolD d || intD d) ∧ kitB (tyD d) "list" = some (tyD d == "list") ∧ kitB (tyD d) "tuple" = some (tyD d == "tuple") ∧ kitB (tyD d) "str" = some (tyD d == "str") ∧ ((tyD d == "list") || (tyD d == "tuple")) = (seqD d).isSome := by
  cases h with
  | non => exact ⟨(by decide +kernel : kitB "NoneType" "bool" = some false), (by decide +kernel : kitB "NoneType" "int" = some false), (by decide +kernel : kitB "NoneType" "list" = some ("NoneType" == "list")), (by decide +kernel : kitB "NoneType" "tuple" = some ("NoneType" == "tuple")), (by decide +kernel : kitB "NoneType" "str" = some ("NoneType" == "str")), (by decide +kernel : (("NoneType" == "list") || ("NoneType" == "tuple")) = false)⟩
  | bl b => exact ⟨(by decide +kernel : kitB "bool" "bool" = some true), (by decide +kernel : kitB "bool" "int" = some true), (by decide +kernel : kitB "bool" "list" = some ("bool" == "list")), (by decide +kernel : kitB "bool" "tuple" = some ("bool" == "tuple")), (by decide +kernel : kitB "bool" "str" = some ("bool" == "str")), (by decide +kernel : (("bool" == "list") || ("bool" == "tuple")) = false)⟩
  | int i => exact ⟨(by decide +kernel : kitB "int" "bool" = some false), (by decide +kernel : kitB "int" "int" = some true), (by decide +kernel : kitB "int" "list" = some ("int" == "list")), (by decide +kernel : kitB "int" "tuple" = some ("int" == "tuple")), (by decide +kernel : kitB "int" "str" = some ("int" == "str")), (by decide +kernel : (("int" == "list") || ("int" == "tuple")) = false)⟩
  | str x => exact ⟨(by decide +kernel : kitB "str" "bool" = some false), (by decide +kernel : kitB "str" "int" = some false), (by decide +kernel : kitB "str" "list" = some ("str" == "list")), (by decide +kernel : kitB "str" "tuple" = some ("str" == "tuple")), (by decide +kernel : kitB "str" "str" = some ("str" == "str")), (by decide +kernel : (("str" == "list") || ("str" == "tuple")) = false)⟩
  | lst _ _ => exact ⟨(by decide +kernel : kitB "list" "bool" = some false), (by decide +kernel : kitB "list" "int" = some false), (by decide +kernel : kitB "list" "list" = some ("list" == "list")), (by decide +kernel : kitB "list" "tuple" = some ("list" == "tuple")), (by decide +kernel : kitB "list" "str" = some ("list" == "str")), (by decide +kernel : (("list" == "list") || ("list" == "tuple")) = true)⟩
  | tup _ _ => exact ⟨(by decide +kernel : kitB "tuple" "bool" = some false), (by decide +kernel : kitB "tuple" "int" = some false), (by decide +kernel : kitB "tuple" "list" = some ("tuple" == "list")), (by decide +kernel : kitB "tuple" "tuple" = some ("tuple" == "tuple")), (by decide +kernel : kitB "tuple" "str" = some ("tuple" == "str")), (by decide +kernel : (("tuple" == "list") || ("tuple" == "tuple")) = true)⟩
theorem d_isB (h : Dv K H v d) (q : Q (.bl (boolD d)) H) : rIsi K [v, .ty "bool"] H Q := ⟨v, _, _, _, _, rfl, .ty _, h.ty, kit_ty h.kits.1, q⟩
theorem d_isI (h : Dv K H v d) (q : Q (.bl (boolD d || intD d)) H) : rIsi K [v, .ty "int"] H Q := ⟨v, _, _, _, _, rfl, .ty _, h.ty, kit_ty h.kits.2.1, q⟩
theorem d_isT (h : Dv K H v d) (q : Q (.bl (tyD d == "tuple")) H) : rIsi K [v, .ty "tuple"] H Q := ⟨v, _, _, _, _, rfl, .ty _, h.ty, kit_ty h.kits.2.2.2.1, q⟩
theorem d_isStr (h : Dv K H v d) (q : Q (.bl (tyD d == "str")) H) : rIsi K [v, .ty "str"] H Q := ⟨v, _, _, _, _, rfl, .ty _, h.ty, kit_ty h.kits.2.2.2.2.1, q⟩
theorem d_isS {p : Addr} (hp : H p = some (.tup [.ty "list", .ty "tuple"])) (h : Dv K H v d) (q : Q (.bl (seqD d).isSome) H) : rIsiT K [v, .ref p] H Q := by
  obtain ⟨_, _, h2, h3, _, h4⟩ := h.kits
  refine ⟨v, p, _, _, _, (seqD d).isSome, rfl, hp, .cons (.ty _) (.cons (.ty _) .nil), h.ty, ?_, q⟩
  refine kitAny_cons (kit_ty h2) (fun e => ?_) fun e => by rw [← h4, e]; rfl
  refine kitAny_cons (kit_ty h3) (fun e2 => ?_) fun e2 => by rw [← h4, e2, Bool.or_true]
  rw [kitAny_nil, ← h4, e, e2]; rfl
/-- a sequence's items -/
theorem Dv.seq (h : Dv K H v d) {ds : List PyData} (e : seqD d = some ds) : ∃ a xs, v = .ref a ∧ (SqL K H a xs ∨ SqT K H a xs) ∧ DvAll K H xs ds := by
  cases h with
  | lst h q => cases e; exact ⟨_, _, rfl, .inl (sqL_at h), q⟩
  | tup h q => cases e; exact ⟨_, _, rfl, .inr h, q⟩
  | _ => cases e
end
/-- is_whole's answer, of data -/
def wholeD : PyData → V → V → Bool
  | .int i, lo, hi => loOk lo i && hiOk hi i
  | _, _, _ => false
end Jv

/-! ### methods, makings that may raise within a try; static methods; readings of objects -/
namespace Jv
open PySem PySem.Spec PyProof.Rows L2
section
variable {X : Cx} {CX : CXT} {k : Nat} {f C : Addr} {fd : FuncData} {ps : List Str} {sp : Sp} {dvs : List V} {ds : List Value} {E : L2.St → XK} {x m : Str} {p pos apos : Pos} {e o : Expr} {es : List Expr} {ta : TE} {t : TA}
theorem run_fnX {pins : List (Addr × Obj)} {σ : L2.St} {H : Hp} {s : Shared} {Q : VK} {us : List Value} {vs : List V} (F : FnOk X.prog X.w X.K X.mg X.base CX k f fd ps sp) (hr : Room k X.A) (hb : Binds X.K fd ps ds) (hd : Vals dvs ds) (hx : PassesAt CX X σ (E σ))
    (I : Inv X pins σ H s) (r : Vals vs us) (h : sp (vs ++ dvs) H Q (E σ)) : wpAny (model X.prog X.w) X.A (call (.ref f) us) (EP X pins σ Q) X.xe s := by
  have r2 : Vals (vs ++ dvs) (us ++ ds) := r.append hd
  have hl : (us ++ ds).length = ps.length := by rw [← r2.length]; exact F.len _ _ _ _ h
  refine wpAny_call (codeAny_mono (F.run X.A X.stack s H ⟨us, []⟩ (us ++ ds) (vs ++ dvs) Q (E σ) hr I.env0 (hb s us I.kIn hl) r2 h) fun r s' hq => ?_)
  cases r with
  | error e => exact hx pins H s e s' I hq
  | ok fl =>
    cases fl with
    | ret u => exact I.after hq
    | next => exact False.elim hq
    | brk => exact False.elim hq
    | cont => exact False.elim hq
def tMethX (C : Addr) (m : Str) (sp : Sp) (dvs : List V) (E : L2.St → XK) (ta : TE) (t : TA) : TE := fun σ H Q => ta σ H fun x H1 => ∃ a dx fs, x = .ref a ∧ H1 a = some (.ins C dx fs) ∧ fs.lookup m = none ∧
  t σ H1 fun vs H2 => sp (x :: (vs ++ dvs)) H2 Q (E σ)
theorem pe_methX {pl : Sem Bool} (he : PE X o ta) (c : Cls X.K C) (hm : Meth X.K C m f) (F : FnOk X.prog X.w X.K X.mg X.base CX k f fd ps sp) (hr : Room k X.A) (hb : Binds X.K fd ps ds) (hd : Vals dvs ds) (hx : ∀ σ, PassesAt CX X σ (E σ)) (ha : PA X (e :: es) t)
    (hst : starEach (e :: es) X.env = (false, eval e X.env) :: starEach es X.env := by rfl) (hpl : (backTo pos (starEach es X.env)).any (·.1) = false := by rfl)
    (ht : eval (.Call (.Attribute o m apos) (e :: es) [] pos) X.env = (do
      let ov ← eval o X.env
      standAt apos.atName
      let (f, first) ← holding [ov] (getMethod ov m pl)
      callWith pos f first (backTo pos (starEach (e :: es) X.env)) (backToKw pos (keywordEach [] X.env))) := by rfl) :
    PE X (.Call (.Attribute o m apos) (e :: es) [] pos) (tMethX C m sp dvs E ta t) := by
  refine ⟨fun pins s σ H Q I h => ?_⟩
  refine PySem.W.methodCall_KW (pl := pl) (thn (he.run pins s σ H _ I h) fun u s1 ⟨x, H1, I1, rx, a, dx, fs, ex, ea, l, q⟩ => ?_) ht
  subst ex
  obtain rfl : u = Value.ref a := rx
  refine getmeth_ok I1 ea c hm l ?_
  refine PySem.W.callWith_K (first := [.ref a]) (h₀ := X.base) I.ok.mod.kin hm.kp (thn (ha.run pos pins s1 σ H1 _ I1 q) fun us s2 ⟨vs, H2, I2, r, q2⟩ => ⟨I2.kIn, ?_⟩) hst hpl
  exact run_fnX (us := .ref a :: us) (vs := .ref a :: vs) F hr hb hd (hx σ) I2 (.cons rfl r) q2
def tMakeX (C : Addr) (sp : Sp) (dvs : List V) (E : L2.St → XK) (t : TA) : TE := fun σ H Q => t σ H fun vs H1 => ∀ x dx, H1 x = none → H1 dx = none → dx ≠ x →
  sp (.ref x :: (vs ++ dvs)) (upd (upd H1 dx (.own x)) x (.ins C dx [])) (fun v H2 => v = .non ∧ Q (.ref x) H2) (E σ)
theorem run_makeX {pins : List (Addr × Obj)} {σ : L2.St} {H : Hp} {s : Shared} {Q : VK} {us : List Value} {vs : List V} (M : Mk X.K C f) (F : FnOk X.prog X.w X.K X.mg X.base CX k f fd ps sp) (hr : Room (k + 1) X.A) (hb : Binds X.K fd ps ds) (hd : Vals dvs ds)
    (hx : PassesAt CX X σ (E σ)) (I : Inv X pins σ H s) (r : Vals vs us)
    (h : ∀ x dx, H x = none → H dx = none → dx ≠ x → sp (.ref x :: (vs ++ dvs)) (upd (upd H dx (.own x)) x (.ins C dx [])) (fun v H2 => v = .non ∧ Q (.ref x) H2) (E σ)) :
    wpAny (model X.prog X.w) X.A (call (.ref C) us) (EP X pins σ Q) X.xe s := by
  have hq := h (s.heap.objs.size + 1) s.heap.objs.size (I.hok.fresh (Nat.le_succ _)) (I.hok.fresh (Nat.le_refl _)) (Nat.ne_of_lt (Nat.lt_succ_self _))
  have I2 := Inv.made (C := C) I
  have r2 : Vals (V.ref (s.heap.objs.size + 1) :: (vs ++ dvs)) (Value.ref (s.heap.objs.size + 1) :: (us ++ ds)) := .cons rfl (r.append hd)
  have hl : (Value.ref (s.heap.objs.size + 1) :: us ++ ds).length = ps.length := by
    have e := r2.length
    rw [F.len _ _ _ _ hq] at e
    exact e.symm
  refine wpAny_call (make_map (f := f) I.kIn M.makes M.init (beq_iff_eq.mp M.fn) (codeAny_mono (F.run _ X.stack _ _ ⟨Value.ref (s.heap.objs.size + 1) :: us, []⟩ (Value.ref (s.heap.objs.size + 1) :: (us ++ ds)) _ _ (E σ) (hr.make C us [])
    (I2.env0.make C us []) (hb _ (Value.ref (s.heap.objs.size + 1) :: us) I2.kIn hl) r2 hq) fun r s' hq' => ?_))
  cases r with
  | error e => exact hx pins _ _ e s' I2 hq'
  | ok fl =>
    cases fl with
    | ret u =>
      obtain ⟨v, H', I3, rv, ev, q3⟩ := I2.after hq'
      subst ev
      exact ⟨rv, ⟨V.ref (s.heap.objs.size + 1), H', I3, rfl, q3⟩⟩
    | next => exact False.elim hq'
    | brk => exact False.elim hq'
    | cont => exact False.elim hq'
theorem pe_makeX (M : Mk X.K C f) (F : FnOk X.prog X.w X.K X.mg X.base CX k f fd ps sp) (hr : Room (k + 1) X.A) (hg : Gl X x) (hm : X.mg x = some (.ref C)) (hb : Binds X.K fd ps ds) (hd : Vals dvs ds) (hx : ∀ σ, PassesAt CX X σ (E σ))
    (ha : PA X (e :: es) t) (hdb : (x == ("__debug__" : Str)) = false := by decide) (he : starEach (e :: es) X.env = (false, eval e X.env) :: starEach es X.env := by rfl) (hpl : (backTo pos (starEach es X.env)).any (·.1) = false := by rfl) :
    PE X (.Call (.Name x p) (e :: es) [] pos) (tMakeX C sp dvs E t) := by
  refine ⟨fun pins s σ H Q I h => ?_⟩
  refine wpAny_Call_Name_kw (ld_glob I hg hm ?_ hdb)
  refine PySem.W.callWith_K (h₀ := X.base) I.ok.mod.kin M.kp (thn (ha.run pos pins s σ H _ I h) fun us s1 ⟨vs, H1, I1, r, q⟩ => ⟨I1.kIn, ?_⟩) he hpl
  exact run_makeX M F hr hb hd (hx σ) I1 r q
end
/-- C.m is a static method: its record at p, its def at g -/
structure SMet (K : PySem.W.Frag) (C : Addr) (mc : Value) (m : Str) (p g : Addr) : Prop where
  rd : PySem.W.readsIn K C mc = true
  ga : PySem.W.specialIn K (.ref C) "__getattribute__" = some (some (.builtin "type.__getattribute__"))
  at_ : PySem.W.findCls K (.ref C) mc m = some (.get (.builtin "staticmethod.__get__") (.ref p) .none (.ref C))
  rc : ∃ rest, PySem.W.recIn K p "staticmethod" = some (.ref g :: rest)
  kp : PySem.W.keepIn K (.ref g) = true
section
variable {X : Cx} {CX : CXT} {k : Nat} {g p C : Addr} {mc : Value} {fd : FuncData} {ps : List Str} {sp : Sp} {dvs : List V} {ds : List Value} {E : XK} {m : Str} {pos apos : Pos} {e o : Expr} {es : List Expr} {ta : TE} {t : TA}
def tSMeth (C : Addr) (sp : Sp) (dvs : List V) (E : XK) (ta : TE) (t : TA) : TE := fun σ H Q => ta σ H fun x H1 => x = .ref C ∧ t σ H1 fun vs H2 => sp (vs ++ dvs) H2 Q E
theorem getsm_ok {pins : List (Addr × Obj)} {σ : L2.St} {H : Hp} {s : Shared} {A : Around} {E : Value → Shared → Prop} {pl : Sem Bool} {Q : Value × List Value → Shared → Prop} (I : Inv X pins σ H s) (r : SMet X.K C mc m p g)
    (h : ∀ s', Inv X pins σ H s' → Q (.ref g, []) s') : wpAny (model X.prog X.w) A (getMethod (.ref C) m pl) Q E s := by
  obtain ⟨rest, hp⟩ := r.rc
  refine PySem.W.method_cls I.kIn r.ga (PySem.W.cls_bind I.kIn r.rd r.at_ ?_)
  exact wpAny_call (PySem.W.sm_get (s := { s with toks := s.toks + 1 }) I.kIn hp (PySem.W.handed_on rfl (h _ (I.tok _))))
theorem pe_smeth {pl : Sem Bool} (he : PE X o ta) (c : SMet X.K C mc m p g) (F : FnOk X.prog X.w X.K X.mg X.base CX k g fd ps sp) (hr : Room k X.A) (hb : Binds X.K fd ps ds) (hd : Vals dvs ds) (hx : Passes CX X E) (ha : PA X (e :: es) t)
    (hst : starEach (e :: es) X.env = (false, eval e X.env) :: starEach es X.env := by rfl) (hpl : (backTo pos (starEach es X.env)).any (·.1) = false := by rfl)
    (ht : eval (.Call (.Attribute o m apos) (e :: es) [] pos) X.env = (do
      let ov ← eval o X.env
      standAt apos.atName
      let (f, first) ← holding [ov] (getMethod ov m pl)
      callWith pos f first (backTo pos (starEach (e :: es) X.env)) (backToKw pos (keywordEach [] X.env))) := by rfl) :
    PE X (.Call (.Attribute o m apos) (e :: es) [] pos) (tSMeth C sp dvs E ta t) := by
  refine ⟨fun pins s σ H Q I h => ?_⟩
  refine PySem.W.methodCall_KW (pl := pl) (thn (he.run pins s σ H _ I h) fun u s1 ⟨x, H1, I1, rx, ex, q⟩ => ?_) ht
  subst ex
  obtain rfl : u = Value.ref C := rx
  refine getsm_ok I1 c fun s2 I2 => ?_
  refine PySem.W.callWith_K (first := []) (h₀ := X.base) I.ok.mod.kin c.kp (thn (ha.run pos pins s2 σ H1 _ I2 q) fun us s3 ⟨vs, H2, I3, rv, q2⟩ => ⟨I3.kIn, ?_⟩) hst hpl
  exact run_fn F hr hb hd hx I3 rv q2
end
end Jv

/-! ### is True, is False of any thing; faults caught by one of two names -/
namespace Jv
open PySem PySem.Spec PyProof.Rows L2
/-- a is b, b True or False -/
def rIsT : R2 := fun x y H Q => ∃ b : Bool, y = .bl b ∧ Q (.bl (decide (x = .bl b))) H
theorem op_isT {X : Cx} : OpR X (compareOp .Is) rIsT := by
  intro pins s σ H x y v u Q I rx ry h
  obtain ⟨b, rfl, q⟩ := h
  cases (show u = Value.bool b from ry)
  by_cases e : x = .bl b
  · subst e
    cases (show v = Value.bool b from rx)
    exact wpAny_is_self rfl ⟨.bl true, H, I, rfl, by simpa using q⟩
  · have e2 : decide (x = .bl b) = false := decide_eq_false e
    rw [e2] at q
    refine wpAny_is_other ?_ ?_ ⟨.bl false, H, I, rfl, q⟩
    · cases x <;> first
        | (cases rx; rfl)
        | (obtain ⟨t, rfl⟩ := rx; rfl)
    · intro z
      cases x with
      | bl c => cases (show v = Value.bool c from rx); exact e (by cases z; rfl)
      | non => cases rx; cases z
      | int i => obtain ⟨t, rfl⟩ := rx; cases z
      | str i => obtain ⟨t, rfl⟩ := rx; cases z
      | byt i => obtain ⟨t, rfl⟩ := rx; cases z
      | flt i => obtain ⟨t, rfl⟩ := rx; cases z
      | ref a => cases (show v = Value.ref a from rx); cases z
      | ty a => cases (show v = Value.type a from rx); cases z
end Jv

/-! ### sequences that stand or are the program's own; walks, comprehensions over them; data's answers -/
namespace Jv
open PySem PySem.Spec PyProof.Rows L2
def Sk (K : PySem.W.Frag) (H : Hp) (x : V) (xs : List V) : Prop := ∃ a, x = .ref a ∧ (SqL K H a xs ∨ SqT K H a xs)
section
variable {K : PySem.W.Frag} {σ : L2.St} {H H' : Hp} {te : TE} {Q : VK} {xs : List V} {ds : List PyData} {j i : Nat} {x v : V} {d : PyData}
theorem Sk.same (h : Sk K H x xs) (s : Same H H') : Sk K H' x xs := by
  obtain ⟨a, rfl, h | h⟩ := h
  · exact ⟨a, rfl, .inl (s.seq h)⟩
  · exact ⟨a, rfl, .inr (Jv.Same.sqT s h)⟩
theorem Dv.sk (h : Dv K H v d) (e : seqD d = some ds) : ∃ xs, Sk K H v xs ∧ DvAll K H xs ds := by
  obtain ⟨a, xs, e1, e2, e3⟩ := h.seq e
  exact ⟨xs, ⟨a, e1, e2⟩, e3⟩
theorem Sk.len (h : Sk K H x xs) (q : Q (.int xs.length) H) : rLenK K [x] H Q := by
  obtain ⟨a, rfl, h⟩ := h
  exact r_len h q
theorem Sk.ix (h : Sk K H x xs) {k : Int} {v : V} (e : atI xs k = some v) (q : Q v H) : rIx K x (.int k) H Q := by
  obtain ⟨a, rfl, h | h⟩ := h
  · exact .inl (r_ixL h e q)
  · exact .inr (.inl (r_ixT h e q))
/-- over a name that holds a list or a tuple -/
theorem lcK (hv : σ[i]? = some (some x)) (hx : Sk K H x xs) (f : V → V) (few : xs.length ≤ 1000)
    (hs : ∀ v H1, v ∈ xs → Same H H1 → ∀ P : VK, (∀ H2, Same H1 H2 → P (f v) H2) → te ((σ.set j none).set j (some v)) H1 P)
    (hd : ∀ D H1, Same H H1 → H D = none → H1 D = some (.lst (xs.map f)) → Q (.ref D) H1) : tLc (fun σ H R => iList K (tVar i) σ H R ∨ iTup K (tVar i) σ H R) (gName j) tYes te [j] σ H Q := by
  obtain ⟨a, rfl, h | h⟩ := hx
  · exact .inl (lcL hv h f few hs hd)
  · exact .inr (lcT hv h f few hs hd)
theorem Sk.tup (h : Sk K H x xs) (q : ∀ (t : Addr) (H' : Hp), Same H H' → SqT K H' t xs → Q (.ref t) H') : rTupOf K [x] H Q := by
  obtain ⟨a, rfl, h | h⟩ := h
  · exact ⟨a, _, rfl, .inl ⟨h, fun l hl => q l _ (same_new hl) (sqT_at upd_same)⟩⟩
  · exact ⟨a, _, rfl, .inr ⟨h, q a _ (Same.refl _) h⟩⟩
end
def few1 (d : PyData) : Prop := ∀ ds, seqD d = some ds → ds.length ≤ 100
def few2 (d : PyData) : Prop := ∀ ds, seqD d = some ds → ds.length ≤ 100 ∧ ∀ e ∈ ds, few1 e
def few3 (d : PyData) : Prop := ∀ ds, seqD d = some ds → ds.length ≤ 100 ∧ ∀ e ∈ ds, few2 e
theorem DvAll.mem {K : PySem.W.Frag} {H : Hp} : ∀ {vs : List V} {ds : List PyData} {v : V}, DvAll K H vs ds → v ∈ vs → ∃ d ∈ ds, Dv K H v d
  | _, _, _, .nil, m => by cases m
  | _, _, _, .cons a b, m => by
    rcases List.mem_cons.mp m with rfl | m
    · exact ⟨_, List.mem_cons_self, a⟩
    · obtain ⟨d, h1, h2⟩ := DvAll.mem b m
      exact ⟨d, List.mem_cons_of_mem _ h1, h2⟩
theorem Dv.whole {K : PySem.W.Frag} {H : Hp} {v lo hi : V} {d : PyData} (h : Dv K H v d) : wholeV v lo hi = wholeD d lo hi := by
  cases h <;> rfl
/-- a function of things that goes by what they are -/
theorem DvAll.all {K : PySem.W.Frag} {H : Hp} {f : V → Bool} {g : PyData → Bool} (e : ∀ v d, Dv K H v d → f v = g d) : ∀ {vs : List V} {ds : List PyData}, DvAll K H vs ds → vs.all f = ds.all g
  | _, _, .nil => rfl
  | _, _, .cons a b => by rw [List.all_cons, List.all_cons, e _ _ a, DvAll.all e b]
def sidesD (d : PyData) : Bool := match seqD d with
  | some [.int p, .int q] => decide ((1 ≤ p ∧ p ≤ 6) ∧ (1 ≤ q ∧ q ≤ 6) ∧ p * q ≤ 12)
  | _ => false
def endsD (l : Int) (d : PyData) : Bool := match seqD d with
  | some ds => decide (0 < ds.length) && ds.all fun e => wholeD e (.int (-l)) (.int l)
  | none => false
def knowsD (d : PyData) : Bool := match seqD d with
  | some ds => decide (ds.length = 2) && ds.all boolD
  | none => false
theorem boolD_iff {K : PySem.W.Frag} {H : Hp} {v : V} {d : PyData} (h : Dv K H v d) : (decide (v = .bl true) || decide (v = .bl false)) = boolD d := by
  cases h with
  | bl b => cases b <;> rfl
  | _ => rfl
theorem wholeD_int {d : PyData} {l h : Int} : wholeD d (.int l) (.int h) = true → ∃ i, d = .int i ∧ l ≤ i ∧ i ≤ h := by
  intro q
  cases d with
  | int i => simp [wholeD, loOk, hiOk] at q; exact ⟨i, rfl, q⟩
  | _ => cases q
/-- how many lines, how long -/
def linesD (d : PyData) : Option (Nat × Nat) := match seqD d with
  | none => none
  | some ds => if ds.all (fun e => (seqD e).isSome) = true then
      match ds.map (fun e => ((seqD e).getD []).length) with
      | [] => none
      | n :: ns => if ns.all (fun m => decide (m = n)) = true then some (ns.length + 1, n) else none
    else none
end Jv

/-! ### comprehensions whose results are data; the lists under way hidden -/
namespace Jv
open PySem PySem.Spec PyProof.Rows L2
def hide (N : List Addr) (H : Hp) : Hp := fun b => if b ∈ N then none else H b
theorem hide_nil {H : Hp} : hide [] H = H := by funext b; simp [hide]
theorem hide_at {N : List Addr} {H : Hp} {b : Addr} {o : HO} (n : b ∉ N) (h : H b = some o) : hide N H b = some o := by unfold hide; rw [if_neg n]; exact h
theorem hide_some {N : List Addr} {H : Hp} {b : Addr} {o : HO} (h : hide N H b = some o) : b ∉ N ∧ H b = some o := by
  unfold hide at h
  by_cases n : b ∈ N
  · rw [if_pos n] at h; cases h
  · rw [if_neg n] at h; exact ⟨n, h⟩
theorem hide_le {N : List Addr} {H : Hp} : Same (hide N H) H := fun _ _ e => (hide_some e).2
theorem hide_same {N : List Addr} {H H' : Hp} (s : Same H H') : Same (hide N H) (hide N H') := fun _ _ e => hide_at (hide_some e).1 (s _ _ (hide_some e).2)
theorem hide_more {N : List Addr} {H H' : Hp} {D : Addr} (s : Same H H') (n : H D = none) : Same (hide N H) (hide (D :: N) H') := fun b o e => by
  obtain ⟨h1, h2⟩ := hide_some e
  refine hide_at (fun m => ?_) (s _ _ h2)
  rcases List.mem_cons.mp m with rfl | m
  · rw [n] at h2; cases h2
  · exact h1 m
theorem hide_less {N : List Addr} {H : Hp} {D : Addr} : Same (hide (D :: N) H) (hide N H) := fun b o e => by
  obtain ⟨h1, h2⟩ := hide_some e
  exact hide_at (fun m => h1 (List.mem_cons_of_mem _ m)) h2
theorem hide_upd {N : List Addr} {H : Hp} {D : Addr} {o : HO} : hide (D :: N) (upd H D o) = hide (D :: N) H := by
  funext b
  unfold hide
  by_cases m : b ∈ D :: N
  · rw [if_pos m, if_pos m]
  · rw [if_neg m, if_neg m]
    exact upd_ne fun e => m (by rw [e]; exact List.mem_cons_self)
def Held (N : List Addr) (H : Hp) : Prop := ∀ b ∈ N, ∃ o, H b = some o
theorem Held.nil {H : Hp} : Held [] H := fun _ h => by cases h
theorem Held.same {N : List Addr} {H H' : Hp} (h : Held N H) (s : Same H H') : Held N H' := fun b m => let ⟨o, e⟩ := h b m; ⟨o, s _ _ e⟩
theorem Held.cons {N : List Addr} {H : Hp} {D : Addr} {o : HO} (h : Held N H) (e : H D = some o) : Held (D :: N) H := fun b m => by
  rcases List.mem_cons.mp m with rfl | m
  · exact ⟨_, e⟩
  · exact h b m
theorem Held.new {N : List Addr} {H : Hp} {t : Addr} (h : Held N H) (n : H t = none) : t ∉ N := fun m => by
  obtain ⟨o, e⟩ := h t m
  rw [n] at e; cases e
section
variable {K : PySem.W.Frag} {σ : L2.St} {H : Hp} {te : TE} {tt : TT} {Q : VK} {xs : List V} {es : List PyData} {j i n : Nat} {x : V} {N : List Addr} {J : It} {G : Hp → Prop} {Y : Nat → Hp → V → Hp → Prop} {F : Nat → V → Prop}
theorem lcD (w : Walk J n G Y) (hG : ∀ H', Same H H' → G H') (hy : ∀ i H x H', i < n → Y i H x H' → H' = H ∧ F i x) (hN : Held N H) (es : List PyData) (hl : es.length = n) (few : n ≤ 1000)
    (hs : ∀ i v e D H1, i < n → F i v → es[i]? = some e → Same H H1 → Held (D :: N) H1 → H D = none → ∀ P : VK, (∀ y H2, Same H1 H2 → Dv K (hide (D :: N) H2) y e → P y H2) → te ((σ.set j none).set j (some v)) H1 P)
    (hd : ∀ D ys H1, Same H H1 → H D = none → H1 D = some (.lst ys) → DvAll K (hide N H1) ys es → DvAll K (hide (D :: N) H1) ys es → Q (.ref D) H1) : ∀ D, H D = none → ∃ W : Nat → Nat → Hp → Prop, (∃ m, W 0 m (upd H D (.lst []))) ∧ ∀ i m H, W i m H →
      (J.stop i H ∧ Q (.ref D) H) ∨ (J.go i H ∧ ∃ Nx : Hp → Prop, (∀ H', Nx H' → ∃ m', m' < m ∧ W (i + 1) m' H') ∧ ∀ x H', J.yld i H x H' → gName j x (wipe σ [j]) H' fun σ2 H2 => wipe σ2 [j] = wipe σ [j] ∧ tYes σ2 H2 fun b H3 =>
        if b = true then te σ2 H3 fun y H4 => ∃ acc, H4 D = some (.lst acc) ∧ acc.length < sizeLine ∧ Nx (upd H4 D (.lst (acc ++ [y]))) else Nx H3) := by
  intro D hD
  refine lc_it w (fun i H1 => Same H H1 ∧ ∃ ys, H1 D = some (.lst ys) ∧ DvAll K (hide (D :: N) H1) ys (es.take i)) ⟨same_new hD, [], upd_same, .nil⟩ (fun i H1 _ h => hG H1 h.1) ?_ ?_
  · rintro i x H1 H2 hi ⟨s1, ys, e1, al⟩ hx
    obtain ⟨e0, hF⟩ := hy i _ _ _ hi hx
    subst e0
    refine ⟨wipe1, ?_⟩
    refine r_yes ?_
    refine r_true (c := true) rfl ?_
    have hie : i < es.length := by omega
    have he := List.getElem?_eq_getElem hie
    refine hs i x _ D _ hi hF he s1 ((hN.same s1).cons e1) hD _ fun y H3 s3 dy => ⟨_, s3 _ _ e1, ?_, ?_, _, upd_same, ?_⟩
    · rw [al.len, List.length_take]; exact small_lt (by omega)
    · intro b o e; exact kpO (s3 _ _ (s1 b o e)) (ne_of_none e hD)
    · rw [hide_upd, take_more he]
      exact DvAll.snoc dy (al.same (hide_same s3))
  · rintro H1 ⟨s1, ys, e1, al⟩
    rw [List.take_of_length_le (by omega)] at al
    exact hd D ys H1 s1 hD e1 (al.same hide_less) al
theorem yat {xs : List V} : ∀ (i : Nat) (H : Hp) (x : V) (H' : Hp), i < xs.length → YAt xs i H x H' → H' = H ∧ xs[i]? = some x := fun _ _ _ _ _ h => h
theorem yfn {f : Nat → V} {n : Nat} : ∀ (i : Nat) (H : Hp) (x : V) (H' : Hp), i < n → YFn f i H x H' → H' = H ∧ x = f i := fun _ _ _ _ _ h => h
/-- over a name that holds a list or a tuple; the results' data by the data's -/
theorem lcS2 (hv : σ[i]? = some (some x)) (hx : Sk K H x xs) (hN : Held N H) (es : List PyData) (hl : es.length = xs.length) (few : xs.length ≤ 1000)
    (hs : ∀ i v e D H1, i < xs.length → xs[i]? = some v → es[i]? = some e → Same H H1 → Held (D :: N) H1 → H D = none → ∀ P : VK, (∀ y H2, Same H1 H2 → Dv K (hide (D :: N) H2) y e → P y H2) → te ((σ.set j none).set j (some v)) H1 P)
    (hd : ∀ D ys H1, Same H H1 → H D = none → H1 D = some (.lst ys) → DvAll K (hide N H1) ys es → DvAll K (hide (D :: N) H1) ys es → Q (.ref D) H1) : tLc (fun σ H R => iList K (tVar i) σ H R ∨ iTup K (tVar i) σ H R) (gName j) tYes te [j] σ H Q := by
  obtain ⟨a, rfl, h | h⟩ := hx
  · exact .inl ⟨_, hv, a, rfl, ⟨xs, h⟩, lcD walk_list (fun H' s => s.seq h) yat hN es hl few hs hd⟩
  · exact .inr ⟨_, hv, a, rfl, ⟨xs, h⟩, lcD walk_tup (fun H' s => Jv.Same.sqT s h) yat hN es hl few hs hd⟩
end
/-- results that are truths -/
theorem dv_bools {K : PySem.W.Frag} {H : Hp} : ∀ {ys : List V} {bs : List Bool}, DvAll K H ys (bs.map PyData.bool) → ys = bs.map V.bl
  | [], [], _ => rfl
  | _, b :: bs, .cons (.bl _) r => by rw [dv_bools r]; rfl
theorem dv_intsV {K : PySem.W.Frag} {H : Hp} : ∀ {ys : List V} {ns : List Int}, DvAll K H ys (ns.map PyData.int) → ys = ns.map V.int
  | [], [], _ => rfl
  | _, b :: bs, .cons (.int _) r => by rw [dv_intsV r]; rfl
end Jv

/-! ### comprehensions of two walks over data -/
namespace Jv
open PySem PySem.Spec PyProof.Rows L2
def rowG (g : PyData → PyData) (r : PyData) : List PyData := ((seqD r).getD []).map g
def upTo (g : PyData → PyData) (ds : List PyData) (m n : Nat) : List PyData := (ds.take m).flatMap (rowG g) ++ (((ds[m]?.map (rowG g)).getD []).take n)
theorem upTo_more {g : PyData → PyData} {ds : List PyData} {m n : Nat} {r d : PyData} {l : List PyData} (hr : ds[m]? = some r) (hl : seqD r = some l) (hd : l[n]? = some d) : upTo g ds m (n + 1) = upTo g ds m n ++ [g d] := by
  unfold upTo
  rw [hr, List.append_assoc]
  congr 1
  show (rowG g r).take (n + 1) = (rowG g r).take n ++ [g d]
  refine take_more ?_
  unfold rowG
  rw [hl]
  show (l.map g)[n]? = _
  rw [List.getElem?_map, hd]; rfl
theorem upTo_next {g : PyData → PyData} {ds : List PyData} {m : Nat} {r : PyData} {l : List PyData} (hr : ds[m]? = some r) (hl : seqD r = some l) : upTo g ds m l.length = upTo g ds (m + 1) 0 := by
  unfold upTo
  rw [hr, take_more hr, List.flatMap_append]
  have : (rowG g r).take l.length = rowG g r := by
    unfold rowG; rw [hl]
    exact List.take_of_length_le (by show (l.map g).length ≤ _; rw [List.length_map]; exact Nat.le_refl _)
  show _ ++ (rowG g r).take l.length = _
  rw [this]
  simp
theorem upTo_end {g : PyData → PyData} {ds : List PyData} : upTo g ds ds.length 0 = ds.flatMap (rowG g) := by
  unfold upTo
  simp
theorem flat_len {f : PyData → List PyData} : ∀ {l : List PyData}, (∀ e ∈ l, (f e).length ≤ 100) → (l.flatMap f).length ≤ l.length * 100
  | [], _ => by simp
  | a :: r, h => by
    have h1 := h a List.mem_cons_self
    have h2 := flat_len (l := r) fun e m => h e (List.mem_cons_of_mem _ m)
    rw [List.flatMap_cons, List.length_append, List.length_cons, Nat.succ_mul]; omega
section
variable {K : PySem.W.Frag} {σ : L2.St} {H : Hp} {te : TE} {Q : VK} {xs : List V} {ds : List PyData} {i a b : Nat} {x : V} {N : List Addr}
theorem lc2W {J : It} {G : Hp → Prop} (w : Walk J xs.length G (YAt xs)) (hG : ∀ H', Same H H' → G H') (al : DvAll K H xs ds) (hN : Held N H) (g : PyData → PyData)
    (hq : ∀ e ∈ ds, ∃ l, seqD e = some l ∧ l.length ≤ 100) (few : ds.length ≤ 100)
    (w1 : ∀ v, wipe ((wipe σ [a, b]).set a (some v)) [a, b] = wipe σ [a, b])
    (w2 : ∀ v u, wipe ((wipe ((wipe σ [a, b]).set a (some v)) [b]).set b (some u)) [b] = wipe ((wipe σ [a, b]).set a (some v)) [b])
    (ha : ∀ v, ((wipe σ [a, b]).set a (some v))[a]? = some (some v))
    (hs : ∀ v u d D H1, Dv K H1 u d → (∃ e ∈ ds, ∃ l, seqD e = some l ∧ d ∈ l) → Same H H1 → Held (D :: N) H1 → H D = none → ∀ P : VK, (∀ y H2, Same H1 H2 → Dv K (hide (D :: N) H2) y (g d) → P y H2) → te ((wipe ((wipe σ [a, b]).set a (some v)) [b]).set b (some u)) H1 P)
    (hd : ∀ D ys H1, Same H H1 → H D = none → H1 D = some (.lst ys) → DvAll K (hide N H1) ys (ds.flatMap (rowG g)) → Q (.ref D) H1) :
    ∀ D, H D = none → ∃ W : Nat → Nat → Hp → Prop, (∃ m, W 0 m (upd H D (.lst []))) ∧ ∀ i m H, W i m H →
      (J.stop i H ∧ Q (.ref D) H) ∨ (J.go i H ∧ ∃ Nx : Hp → Prop, (∀ H', Nx H' → ∃ m', m' < m ∧ W (i + 1) m' H') ∧ ∀ x H', J.yld i H x H' → gName a x (wipe σ [a, b]) H' fun σ2 H2 => wipe σ2 [a, b] = wipe σ [a, b] ∧ tYes σ2 H2 fun c H3 =>
        if c = true then (iList K (tVar a) σ2 H3 fun J1 H4 => ∃ W1 : Nat → Nat → Hp → Prop, (∃ m, W1 0 m H4) ∧ ∀ j k H, W1 j k H →
          (J1.stop j H ∧ Nx H) ∨ (J1.go j H ∧ ∃ Nx1 : Hp → Prop, (∀ H', Nx1 H' → ∃ k', k' < k ∧ W1 (j + 1) k' H') ∧ ∀ x H', J1.yld j H x H' → gName b x (wipe σ2 [b]) H' fun σ3 H5 => wipe σ3 [b] = wipe σ2 [b] ∧ tYes σ3 H5 fun c H6 =>
            if c = true then te σ3 H6 fun y H7 => ∃ acc, H7 D = some (.lst acc) ∧ acc.length < sizeLine ∧ Nx1 (upd H7 D (.lst (acc ++ [y]))) else Nx1 H6)) ∨ (iTup K (tVar a) σ2 H3 fun J1 H4 => ∃ W1 : Nat → Nat → Hp → Prop, (∃ m, W1 0 m H4) ∧ ∀ j k H, W1 j k H →
          (J1.stop j H ∧ Nx H) ∨ (J1.go j H ∧ ∃ Nx1 : Hp → Prop, (∀ H', Nx1 H' → ∃ k', k' < k ∧ W1 (j + 1) k' H') ∧ ∀ x H', J1.yld j H x H' → gName b x (wipe σ2 [b]) H' fun σ3 H5 => wipe σ3 [b] = wipe σ2 [b] ∧ tYes σ3 H5 fun c H6 =>
            if c = true then te σ3 H6 fun y H7 => ∃ acc, H7 D = some (.lst acc) ∧ acc.length < sizeLine ∧ Nx1 (upd H7 D (.lst (acc ++ [y]))) else Nx1 H6))
        else Nx H3) := by
  intro D hD
  have hlen := al.len
  have bound : ∀ m n, (upTo g ds m n).length < 20000 := by
    intro m n
    unfold upTo
    rw [List.length_append, List.length_take]
    have row : ∀ e ∈ ds, (rowG g e).length ≤ 100 := fun e he => by
      obtain ⟨l, h1, h2⟩ := hq e he
      unfold rowG; rw [h1]; show (l.map g).length ≤ 100; rw [List.length_map]; exact h2
    have h1 := flat_len (f := rowG g) (l := ds.take m) fun e he => row e (List.mem_of_mem_take he)
    have h2 : (ds.take m).length ≤ 100 := by rw [List.length_take]; omega
    have h3 : ((ds[m]?.map (rowG g)).getD []).length ≤ 100 := by
      cases e : ds[m]? with
      | none => simp
      | some r => exact row r (List.mem_of_getElem? e)
    omega
  refine ⟨fun m k H1 => k = xs.length - m ∧ m ≤ xs.length ∧ Same H H1 ∧ ∃ ys, H1 D = some (.lst ys) ∧ DvAll K (hide (D :: N) H1) ys (upTo g ds m 0), ⟨xs.length, by omega, by omega, same_new hD, [], upd_same, by unfold upTo; simp; exact .nil⟩, ?_⟩
  rintro m k H1 ⟨rfl, hm, s1, ys, e1, dv⟩
  by_cases lt : m < xs.length
  · refine .inr ⟨w.goes m H1 lt (hG _ s1), fun H' => Same H H' ∧ ∃ ys, H' D = some (.lst ys) ∧ DvAll K (hide (D :: N) H') ys (upTo g ds (m + 1) 0), fun H' h => ⟨xs.length - (m + 1), by omega, rfl, lt, h⟩, ?_⟩
    rintro v H2 hv0
    obtain ⟨e2, hv⟩ := w.yields m H1 v H2 lt (hG _ s1) hv0
    subst e2
    obtain ⟨r, hr, dr⟩ := al.at hv
    have hrm := List.mem_of_getElem? hr
    obtain ⟨l, hl, fl⟩ := hq r hrm
    refine ⟨w1 _, r_yes (r_true (c := true) rfl ?_)⟩
    obtain ⟨us, ⟨p, ep, hp⟩, du⟩ := dr.sk hl
    subst ep
    have hul := du.len
    have core : ∀ (J1 : It) (G1 : Hp → Prop), Walk J1 us.length G1 (YAt us) → (∀ H', Same H H' → G1 H') → ∃ W1 : Nat → Nat → Hp → Prop, (∃ m, W1 0 m H2) ∧ ∀ j k H5, W1 j k H5 →
        (J1.stop j H5 ∧ (Same H H5 ∧ ∃ ys, H5 D = some (.lst ys) ∧ DvAll K (hide (D :: N) H5) ys (upTo g ds (m + 1) 0))) ∨ (J1.go j H5 ∧ ∃ Nx1 : Hp → Prop, (∀ H', Nx1 H' → ∃ k', k' < k ∧ W1 (j + 1) k' H') ∧ ∀ x H', J1.yld j H5 x H' → gName b x (wipe ((wipe σ [a, b]).set a (some (.ref p))) [b]) H' fun σ3 H5 => wipe σ3 [b] = wipe ((wipe σ [a, b]).set a (some (.ref p))) [b] ∧ tYes σ3 H5 fun c H6 =>
          if c = true then te σ3 H6 fun y H7 => ∃ acc, H7 D = some (.lst acc) ∧ acc.length < sizeLine ∧ Nx1 (upd H7 D (.lst (acc ++ [y]))) else Nx1 H6) := by
      intro J1 G1 wk hG1
      refine ⟨fun j k H5 => k = us.length - j ∧ j ≤ us.length ∧ Same H H5 ∧ ∃ ys, H5 D = some (.lst ys) ∧ DvAll K (hide (D :: N) H5) ys (upTo g ds m j), ⟨us.length, by omega, by omega, s1, ys, e1, dv⟩, ?_⟩
      rintro j k H5 ⟨rfl, hj, s5, zs, e5, dz⟩
      by_cases lt2 : j < us.length
      · refine .inr ⟨wk.goes j H5 lt2 (hG1 _ s5), fun H' => Same H H' ∧ ∃ ys, H' D = some (.lst ys) ∧ DvAll K (hide (D :: N) H') ys (upTo g ds m (j + 1)), fun H' h => ⟨us.length - (j + 1), by omega, rfl, lt2, h⟩, ?_⟩
        rintro u H6 hu0
        obtain ⟨e6, hu⟩ := wk.yields j H5 u H6 lt2 (hG1 _ s5) hu0
        subst e6
        obtain ⟨d, hd1, dd⟩ := du.at hu
        refine ⟨w2 _ _, r_yes (r_true (c := true) rfl ?_)⟩
        refine hs _ _ d D _ (dd.same s5) ⟨r, hrm, l, hl, List.mem_of_getElem? hd1⟩ s5 ((hN.same s5).cons e5) hD _ fun y H7 s7 dy => ⟨_, s7 _ _ e5, ?_, ?_, _, upd_same, ?_⟩
        · rw [dz.len]
          exact Nat.lt_of_lt_of_le (bound m j) (by decide)
        · intro c o hc; exact kpO (s7 _ _ (s5 c o hc)) (ne_of_none hc hD)
        · rw [hide_upd, upTo_more hr hl hd1]
          exact DvAll.snoc dy (dz.same (hide_same s7))
      · have ej : j = l.length := by omega
        subst ej
        refine .inl ⟨by rw [← hul]; exact wk.stops H5 (hG1 _ s5), s5, zs, e5, ?_⟩
        rw [← upTo_next hr hl]; exact dz
    rcases hp with hp | hp
    · exact .inl ⟨_, ha _, p, rfl, ⟨us, s1.seq hp⟩, core _ _ walk_list fun H' s => s.seq hp⟩
    · exact .inr ⟨_, ha _, p, rfl, ⟨us, Jv.Same.sqT s1 hp⟩, core _ _ walk_tup fun H' s => Jv.Same.sqT s hp⟩
  · have em : m = xs.length := by omega
    subst em
    refine .inl ⟨w.stops H1 (hG _ s1), hd D ys H1 s1 hD e1 ?_⟩
    rw [hlen, upTo_end] at dv
    exact dv.same hide_less
theorem lc2D (hv : σ[i]? = some (some x)) (hx : Sk K H x xs) (al : DvAll K H xs ds) (hN : Held N H) (g : PyData → PyData)
    (hq : ∀ e ∈ ds, ∃ l, seqD e = some l ∧ l.length ≤ 100) (few : ds.length ≤ 100)
    (w1 : ∀ v, wipe ((wipe σ [a, b]).set a (some v)) [a, b] = wipe σ [a, b])
    (w2 : ∀ v u, wipe ((wipe ((wipe σ [a, b]).set a (some v)) [b]).set b (some u)) [b] = wipe ((wipe σ [a, b]).set a (some v)) [b])
    (ha : ∀ v, ((wipe σ [a, b]).set a (some v))[a]? = some (some v))
    (hs : ∀ v u d D H1, Dv K H1 u d → (∃ e ∈ ds, ∃ l, seqD e = some l ∧ d ∈ l) → Same H H1 → Held (D :: N) H1 → H D = none → ∀ P : VK, (∀ y H2, Same H1 H2 → Dv K (hide (D :: N) H2) y (g d) → P y H2) → te ((wipe ((wipe σ [a, b]).set a (some v)) [b]).set b (some u)) H1 P)
    (hd : ∀ D ys H1, Same H H1 → H D = none → H1 D = some (.lst ys) → DvAll K (hide N H1) ys (ds.flatMap (rowG g)) → Q (.ref D) H1) :
    tLc2 (fun σ H R => iList K (tVar i) σ H R ∨ iTup K (tVar i) σ H R) (gName a) tYes (fun σ H R => iList K (tVar a) σ H R ∨ iTup K (tVar a) σ H R) (gName b) tYes te [a, b] [b] σ H Q := by
  obtain ⟨p, rfl, h | h⟩ := hx
  · exact .inl ⟨_, hv, p, rfl, ⟨xs, h⟩, lc2W walk_list (fun H' s => s.seq h) al hN g hq few w1 w2 ha hs hd⟩
  · exact .inr ⟨_, hv, p, rfl, ⟨xs, h⟩, lc2W walk_tup (fun H' s => Jv.Same.sqT s h) al hN g hq few w1 w2 ha hs hd⟩
end
end Jv

/-! ### data beside an object's change; readings of fields -/
namespace Jv
open PySem PySem.Spec PyProof.Rows L2
section
variable {K : PySem.W.Frag} {H : Hp} {a C dx : Addr} {fs : List (Str × V)} {o : HO}
theorem SqT.ins (ha : H a = some (.ins C dx fs)) {b : Addr} {xs : List V} (h : SqT K H b xs) : SqT K (upd H a o) b xs := by
  rcases h with (h | ⟨u, h⟩) | h
  · exact .inl (.inl (kpO h fun e => by rw [e, ha] at h; cases h))
  · exact .inl (.inr ⟨u, kpO h fun e => by rw [e, ha] at h; cases h⟩)
  · exact .inr h
mutual
theorem Dv.ins (ha : H a = some (.ins C dx fs)) : ∀ {v : V} {d : PyData}, Dv K H v d → Dv K (upd H a o) v d
  | _, _, .non => .non
  | _, _, .bl b => .bl b
  | _, _, .int i => .int i
  | _, _, .str x => .str x
  | _, _, .lst h q => .lst (kpO h fun e => by rw [e, ha] at h; cases h) (DvAll.ins ha q)
  | _, _, .tup h q => .tup (Jv.SqT.ins ha h) (DvAll.ins ha q)
theorem DvAll.ins (ha : H a = some (.ins C dx fs)) : ∀ {vs : List V} {ds : List PyData}, DvAll K H vs ds → DvAll K (upd H a o) vs ds
  | _, _, .nil => .nil
  | _, _, .cons x y => .cons (Dv.ins ha x) (DvAll.ins ha y)
end
theorem r_sfld {ta tv : TE} {f : Str} {D : Ends} {σ : L2.St} (h : tv σ H fun y H1 => ta σ H1 fun x H2 => ∃ a C dx fs, x = .ref a ∧ H2 a = some (.ins C dx fs) ∧ Cls K C ∧ NoAttr K C f ∧ fs.length < 1000 ∧
  D.nx σ (upd H2 a (.ins C dx (putF f y fs)))) : sFld K ta tv f D σ H := h
theorem r_fld {ta : TE} {f : Str} {σ : L2.St} {Q : VK} (h : ta σ H fun x H1 => ∃ a C dx fs v, x = .ref a ∧ H1 a = some (.ins C dx fs) ∧ Cls K C ∧ NoAttr K C f ∧ fs.lookup f = some v ∧ Q v H1) : tFld K ta f σ H Q := h
end
/-- a new tuple of data -/
theorem dv_new {K : PySem.W.Frag} {H : Hp} {N : List Addr} {t : Addr} {xs : List V} {ds : List PyData} (n : H t = none) (hN : Held N H) (h : DvAll K (hide N H) xs ds) : Dv K (hide N (upd H t (.tup xs))) (.ref t) (.tuple ds) :=
  .tup (sqT_at (hide_at (hN.new n) upd_same)) (h.same (hide_same (same_new n)))
theorem dv_newL {K : PySem.W.Frag} {H : Hp} {N : List Addr} {t : Addr} {xs : List V} {ds : List PyData} (n : H t = none) (hN : Held N H) (h : DvAll K (hide N H) xs ds) : Dv K (hide N (upd H t (.lst xs))) (.ref t) (.list ds) :=
  .lst (hide_at (hN.new n) upd_same) (h.same (hide_same (same_new n)))
end Jv

/-! ### comprehensions over what an expression gives; filters of numbers -/
namespace Jv
open PySem PySem.Spec PyProof.Rows L2
section
variable {K : PySem.W.Frag} {σ : L2.St} {H : Hp} {te te0 : TE} {tt : TT} {Q : VK} {xs : List V} {es : List PyData} {j i n : Nat} {x : V} {N : List Addr}
theorem lcS3 (hit : ∀ P : VK, P x H → te0 σ H P) (hx : Sk K H x xs) (hN : Held N H) (es : List PyData) (hl : es.length = xs.length) (few : xs.length ≤ 1000)
    (hs : ∀ i v e D H1, i < xs.length → xs[i]? = some v → es[i]? = some e → Same H H1 → Held (D :: N) H1 → H D = none → ∀ P : VK, (∀ y H2, Same H1 H2 → Dv K (hide (D :: N) H2) y e → P y H2) → te ((σ.set j none).set j (some v)) H1 P)
    (hd : ∀ D ys H1, Same H H1 → H D = none → H1 D = some (.lst ys) → DvAll K (hide N H1) ys es → DvAll K (hide (D :: N) H1) ys es → Q (.ref D) H1) : tLc (fun σ H R => iList K te0 σ H R ∨ iTup K te0 σ H R) (gName j) tYes te [j] σ H Q := by
  obtain ⟨a, rfl, h | h⟩ := hx
  · exact .inl (hit _ ⟨a, rfl, ⟨xs, h⟩, lcD walk_list (fun H' s => s.seq h) yat hN es hl few hs hd⟩)
  · exact .inr (hit _ ⟨a, rfl, ⟨xs, h⟩, lcD walk_tup (fun H' s => Jv.Same.sqT s h) yat hN es hl few hs hd⟩)
theorem filter_more {f : Int → Bool} {ns : List Int} {i : Nat} {z : Int} (h : ns[i]? = some z) : (ns.take (i + 1)).filter f = (ns.take i).filter f ++ if f z = true then [z] else [] := by
  rw [take_more h, List.filter_append]
  congr 1
  by_cases c : f z = true
  · simp [c]
  · simp [c]
/-- the numbers of a list or a tuple at which a test holds -/
theorem lcFW {J : It} {G : Hp → Prop} {ns : List Int} (w : Walk J (ns.map V.int).length G (YAt (ns.map V.int))) (hG : ∀ H', Same H H' → G H') (f : Int → Bool) (few : ns.length ≤ 1000)
    (ht : ∀ z H1, z ∈ ns → Same H H1 → ∀ R : Bool → Hp → Prop, (∀ H2, Same H1 H2 → R (f z) H2) → tt ((σ.set j none).set j (some (.int z))) H1 R)
    (hs : ∀ z H1, ∀ P : VK, P (.int z) H1 → te ((σ.set j none).set j (some (.int z))) H1 P)
    (hd : ∀ D H1, Same H H1 → H D = none → H1 D = some (.lst ((ns.filter f).map V.int)) → Q (.ref D) H1) : ∀ D, H D = none → ∃ W : Nat → Nat → Hp → Prop, (∃ m, W 0 m (upd H D (.lst []))) ∧ ∀ i m H, W i m H →
      (J.stop i H ∧ Q (.ref D) H) ∨ (J.go i H ∧ ∃ Nx : Hp → Prop, (∀ H', Nx H' → ∃ m', m' < m ∧ W (i + 1) m' H') ∧ ∀ x H', J.yld i H x H' → gName j x (wipe σ [j]) H' fun σ2 H2 => wipe σ2 [j] = wipe σ [j] ∧ tt σ2 H2 fun b H3 =>
        if b = true then te σ2 H3 fun y H4 => ∃ acc, H4 D = some (.lst acc) ∧ acc.length < sizeLine ∧ Nx (upd H4 D (.lst (acc ++ [y]))) else Nx H3) := by
  intro D hD
  refine lc_it w (fun i H1 => Same H H1 ∧ H1 D = some (.lst (((ns.take i).filter f).map V.int))) ⟨same_new hD, upd_same⟩ (fun i H1 _ h => hG H1 h.1) ?_ ?_
  · rintro i x H1 H2 hi ⟨s1, e1⟩ ⟨e0, hx⟩
    subst e0
    obtain ⟨z, hz, rfl⟩ := map_at hx
    refine ⟨wipe1, ht z _ (List.mem_of_getElem? hz) s1 _ fun H3 s3 => ?_⟩
    have e3 := s3 _ _ e1
    by_cases c : f z = true
    · rw [if_pos c]
      refine hs z H3 _ ⟨_, e3, ?_, fun b o e => kpO (s3 _ _ (s1 b o e)) (ne_of_none e hD), ?_⟩
      · rw [List.length_map]
        refine small_lt (Nat.lt_of_le_of_lt (List.length_filter_le _ _) ?_)
        rw [List.length_map] at hi
        rw [List.length_take]; omega
      · rw [upd_same, filter_more hz, if_pos c, List.map_append]; rfl
    · rw [if_neg c]
      refine ⟨s1.trans s3, ?_⟩
      rw [filter_more hz, if_neg c, List.append_nil]; exact e3
  · rintro H1 ⟨s1, e1⟩
    rw [List.length_map, List.take_length] at e1
    exact hd D H1 s1 hD e1
theorem lcF2 {ns : List Int} (hv : σ[i]? = some (some x)) (hx : Sk K H x (ns.map V.int)) (f : Int → Bool) (few : ns.length ≤ 1000)
    (ht : ∀ z H1, z ∈ ns → Same H H1 → ∀ R : Bool → Hp → Prop, (∀ H2, Same H1 H2 → R (f z) H2) → tt ((σ.set j none).set j (some (.int z))) H1 R)
    (hs : ∀ z H1, ∀ P : VK, P (.int z) H1 → te ((σ.set j none).set j (some (.int z))) H1 P)
    (hd : ∀ D H1, Same H H1 → H D = none → H1 D = some (.lst ((ns.filter f).map V.int)) → Q (.ref D) H1) : tLc (fun σ H R => iList K (tVar i) σ H R ∨ iTup K (tVar i) σ H R) (gName j) tt te [j] σ H Q := by
  obtain ⟨a, rfl, h | h⟩ := hx
  · exact .inl ⟨_, hv, a, rfl, ⟨_, h⟩, lcFW walk_list (fun H' s => s.seq h) f few ht hs hd⟩
  · exact .inr ⟨_, hv, a, rfl, ⟨_, h⟩, lcFW walk_tup (fun H' s => Jv.Same.sqT s h) f few ht hs hd⟩
end
end Jv

/-! ### comprehensions whose results are lists of the program's own -/
namespace Jv
open PySem PySem.Spec PyProof.Rows L2
section
variable {K : PySem.W.Frag} {σ : L2.St} {H : Hp} {te te0 : TE} {tt : TT} {Q : VK} {xs : List V} {j n : Nat} {x : V} {J : It} {G : Hp → Prop} {Y : Nat → Hp → V → Hp → Prop} {Fx : Nat → V → Prop} {F : Nat → List V}
theorem lcOwnD (w : Walk J n G Y) (hG : ∀ H', Same H H' → G H') (hy : ∀ i H x H', i < n → Y i H x H' → H' = H ∧ Fx i x) (F : Nat → List V) (few : n ≤ 1000)
    (hs : ∀ i v D H1, i < n → Fx i v → Same H H1 → H D = none → ∀ P : VK, (∀ t H2, H1 t = none → Same H1 H2 → H2 t = some (.lst (F i)) → P (.ref t) H2) → te ((σ.set j none).set j (some v)) H1 P)
    (hd : ∀ D (As : List Addr) H1, Same H H1 → H D = none → As.length = n → As.Nodup → D ∉ As → (∀ b ∈ As, H b = none) → H1 D = some (.lst (As.map V.ref)) → (∀ (k : Nat) b, As[k]? = some b → H1 b = some (.lst (F k))) → Q (.ref D) H1) : ∀ D, H D = none → ∃ W : Nat → Nat → Hp → Prop, (∃ m, W 0 m (upd H D (.lst []))) ∧ ∀ i m H, W i m H →
      (J.stop i H ∧ Q (.ref D) H) ∨ (J.go i H ∧ ∃ Nx : Hp → Prop, (∀ H', Nx H' → ∃ m', m' < m ∧ W (i + 1) m' H') ∧ ∀ x H', J.yld i H x H' → gName j x (wipe σ [j]) H' fun σ2 H2 => wipe σ2 [j] = wipe σ [j] ∧ tYes σ2 H2 fun b H3 =>
        if b = true then te σ2 H3 fun y H4 => ∃ acc, H4 D = some (.lst acc) ∧ acc.length < sizeLine ∧ Nx (upd H4 D (.lst (acc ++ [y]))) else Nx H3) := by
  intro D hD
  refine lc_it w (fun i H1 => Same H H1 ∧ ∃ As : List Addr, As.length = i ∧ As.Nodup ∧ D ∉ As ∧ (∀ b ∈ As, H b = none) ∧ H1 D = some (.lst (As.map V.ref)) ∧ ∀ (k : Nat) b, As[k]? = some b → H1 b = some (.lst (F k)))
    ⟨same_new hD, [], rfl, List.nodup_nil, List.not_mem_nil, fun b m => (by cases m), upd_same, fun k b e => (by simp at e)⟩ (fun i H1 _ h => hG H1 h.1) ?_ ?_
  · rintro i x H1 H2 hi ⟨s1, As, e0, nd, nD, hn, e1, al⟩ hx
    obtain ⟨e2, hF⟩ := hy i _ _ _ hi hx
    subst e2
    refine ⟨wipe1, ?_⟩
    refine r_yes ?_
    refine r_true (c := true) rfl ?_
    refine hs i x D _ hi hF s1 hD _ fun t H3 ht s3 et => ?_
    have htA : t ∉ As := fun m => by
      obtain ⟨k, hk, e⟩ := List.getElem_of_mem m
      have := al k t (by rw [List.getElem?_eq_getElem hk, e])
      rw [ht] at this; cases this
    have htD : t ≠ D := fun e => by rw [e, e1] at ht; cases ht
    have htH : H t = none := s1.free ht
    refine ⟨_, s3 _ _ e1, ?_, fun b o e => kpO (s3 _ _ (s1 b o e)) (ne_of_none e hD), As ++ [t], by rw [List.length_append, e0]; rfl, ?_, ?_, ?_, by rw [upd_same, List.map_append]; rfl, ?_⟩
    · rw [List.length_map, e0]; exact small_lt (by omega)
    · refine List.nodup_append.mpr ⟨nd, by simp, fun a ha b hb => ?_⟩
      rw [List.mem_singleton.mp hb]
      exact fun e => htA (e ▸ ha)
    · intro m
      rcases List.mem_append.mp m with m | m
      · exact nD m
      · exact htD (List.mem_singleton.mp m).symm
    · intro b m
      rcases List.mem_append.mp m with m | m
      · exact hn b m
      · rw [List.mem_singleton.mp m]; exact htH
    · intro k b e
      have nb : b ≠ D := fun eb => by
        rw [eb] at e
        rcases List.mem_append.mp (List.mem_of_getElem? e) with m | m
        · exact nD m
        · exact htD (List.mem_singleton.mp m).symm
      rw [upd_ne nb]
      by_cases hk : k < As.length
      · rw [List.getElem?_append_left hk] at e
        exact s3 _ _ (al k b e)
      · have h2 := (List.getElem?_eq_some_iff.mp e).1
        rw [List.length_append] at h2
        have h3 : k = As.length := by simp at h2; omega
        subst h3
        rw [List.getElem?_append_right (Nat.le_refl _), Nat.sub_self] at e
        cases e
        rw [e0]; exact et
  · rintro H1 ⟨s1, As, e0, nd, nD, hn, e1, al⟩
    exact hd D As H1 s1 hD e0 nd nD hn e1 al
/-- over what an expression gives -/
theorem lcOwn (hit : ∀ P : VK, P x H → te0 σ H P) (hx : Sk K H x xs) (F : Nat → List V) (few : xs.length ≤ 1000)
    (hs : ∀ i v D H1, i < xs.length → xs[i]? = some v → Same H H1 → H D = none → ∀ P : VK, (∀ t H2, H1 t = none → Same H1 H2 → H2 t = some (.lst (F i)) → P (.ref t) H2) → te ((σ.set j none).set j (some v)) H1 P)
    (hd : ∀ D (As : List Addr) H1, Same H H1 → H D = none → As.length = xs.length → As.Nodup → D ∉ As → (∀ b ∈ As, H b = none) → H1 D = some (.lst (As.map V.ref)) → (∀ (k : Nat) b, As[k]? = some b → H1 b = some (.lst (F k))) → Q (.ref D) H1) : tLc (fun σ H R => iList K te0 σ H R ∨ iTup K te0 σ H R) (gName j) tYes te [j] σ H Q := by
  obtain ⟨a, rfl, h | h⟩ := hx
  · exact .inl (hit _ ⟨a, rfl, ⟨xs, h⟩, lcOwnD walk_list (fun H' s => s.seq h) yat F few hs hd⟩)
  · exact .inr (hit _ ⟨a, rfl, ⟨xs, h⟩, lcOwnD walk_tup (fun H' s => Jv.Same.sqT s h) yat F few hs hd⟩)
theorem lcOwn2 {i : Nat} (hv : σ[i]? = some (some x)) (hx : Sk K H x xs) (F : Nat → List V) (few : xs.length ≤ 1000)
    (hs : ∀ i v D H1, i < xs.length → xs[i]? = some v → Same H H1 → H D = none → ∀ P : VK, (∀ t H2, H1 t = none → Same H1 H2 → H2 t = some (.lst (F i)) → P (.ref t) H2) → te ((σ.set j none).set j (some v)) H1 P)
    (hd : ∀ D (As : List Addr) H1, Same H H1 → H D = none → As.length = xs.length → As.Nodup → D ∉ As → (∀ b ∈ As, H b = none) → H1 D = some (.lst (As.map V.ref)) → (∀ (k : Nat) b, As[k]? = some b → H1 b = some (.lst (F k))) → Q (.ref D) H1) : tLc (fun σ H R => iList K (tVar i) σ H R ∨ iTup K (tVar i) σ H R) (gName j) tYes te [j] σ H Q :=
  lcOwn (fun P hP => ⟨_, hv, hP⟩) hx F few hs hd
end
/-- data, item by item -/
theorem dvAll_mk {K : PySem.W.Frag} {H : Hp} : ∀ {vs : List V} {ds : List PyData}, vs.length = ds.length → (∀ (i : Nat) v d, vs[i]? = some v → ds[i]? = some d → Dv K H v d) → DvAll K H vs ds
  | [], [], _, _ => .nil
  | v :: vs, d :: ds, hl, h => .cons (h 0 v d rfl rfl) (dvAll_mk (by simpa using hl) fun i v d h1 h2 => h (i + 1) v d h1 h2)
/-- what each item of a row of rows holds -/
theorem rows_of {K : PySem.W.Frag} {H : Hp} {vs : List V} {ds : List PyData} (h : DvAll K H vs ds) (hs : ∀ d ∈ ds, (seqD d).isSome = true) : ∃ F : Nat → List V, ∀ (i : Nat) v d, vs[i]? = some v → ds[i]? = some d → Sk K H v (F i) ∧ ∃ es, seqD d = some es ∧ DvAll K H (F i) es := by
  have h1 : ∀ i : Nat, ∃ X : List V, ∀ v d, vs[i]? = some v → ds[i]? = some d → Sk K H v X ∧ ∃ es, seqD d = some es ∧ DvAll K H X es := fun i => by
    cases e : vs[i]? with
    | none => exact ⟨[], fun v d h _ => by cases h⟩
    | some v =>
      obtain ⟨d, e2, hd⟩ := h.at e
      obtain ⟨es, e3⟩ := Option.isSome_iff_exists.mp (hs d (List.mem_of_getElem? e2))
      obtain ⟨X, k1, k2⟩ := hd.sk e3
      refine ⟨X, fun v' d' h1 h2 => ?_⟩
      cases h1
      rw [e2] at h2; cases h2
      exact ⟨k1, es, e3, k2⟩
  exact ⟨fun i => Classical.choose (h1 i), fun i => Classical.choose_spec (h1 i)⟩
end Jv

/-! ### several except clauses, some with a name -/
namespace Jv
open PySem PySem.Spec PyProof.Rows L2
/-- a suite with the exception's name at slot i -/
def sNamed (i : Nat) (ts : Addr → Value → Option Addr → TS) : Addr → Value → Option Addr → TS := fun e k d D τ H =>
  ts e k d { nx := fun ρ G => D.nx (ρ.set i none) G, rt := D.rt, bk := fun ρ G => D.bk (ρ.set i none) G, ct := fun ρ G => D.ct (ρ.set i none) G } (τ.set i (some (.ref e))) H
inductive Cls2 (X : Cx) : List ExceptHandler → List (Value × (Addr → Value → Option Addr → TS)) → Prop
  | nil : Cls2 X [] []
  | bare {nm : Str} {k : Value} {ts : Addr → Value → Option Addr → TS} {st : Stmt} {sts : List Stmt} {p1 p2 : Pos} {hl : List ExceptHandler} {wl : List (Value × (Addr → Value → Option Addr → TS))} (hk : Names X nm k)
      (su : ∀ (e : Addr) (ob : Obj) (kd : Value) (d : Option Addr) (pq : List (Addr × Obj)), Zc kd d ob → (∃ fs, ob.data = .fields fs) → PSs (X.suite e ((e, ob) :: pq)) (st :: sts) (ts e kd d)) (more : Cls2 X hl wl) :
      Cls2 X (.ExceptHandler (some (.Name nm p1)) none (st :: sts) p2 :: hl) ((k, ts) :: wl)
  | named {nm n : Str} {i : Nat} {k : Value} {ts : Addr → Value → Option Addr → TS} {st : Stmt} {sts : List Stmt} {p1 p2 : Pos} {hl : List ExceptHandler} {wl : List (Value × (Addr → Value → Option Addr → TS))} (nd : X.N.Nodup) (ix : X.N[i]? = some n) (lc : X.env.kindOf n = some .local) (hk : Names X nm k)
      (su : ∀ (e : Addr) (ob : Obj) (kd : Value) (d : Option Addr) (pq : List (Addr × Obj)), Zc kd d ob → (∃ fs, ob.data = .fields fs) → PSs (X.suite e ((e, ob) :: pq)) (st :: sts) (ts e kd d)) (more : Cls2 X hl wl) :
      Cls2 X (.ExceptHandler (some (.Name nm p1)) (some n) (st :: sts) p2 :: hl) ((k, sNamed i ts) :: wl)
section
variable {X : Cx} {body : List Stmt} {h1 : ExceptHandler} {hl : List ExceptHandler} {wl : List (Value × (Addr → Value → Option Addr → TS))} {pos : Pos} {tb : WX → TS} {Wo : WX}
theorem ps_tryMix (hst : X.stack = X.env :: X.outer) (hfr0 : X.env.frame = some X.env.locals) (tk : Takes X Wo) (hh : Cls2 X (h1 :: hl) wl)
    (hb : ∀ (W : WX) (pq : List (Addr × Obj)) (xe : Value → Shared → Prop), Takes (X.tr pq xe) W → PassesOwn (model X.prog X.w) X.A X.env xe → PSs (X.tr pq xe) body (tb W)) :
    PS X (.Try body (h1 :: hl) [] [] pos) (fun D τ H => tb (wMany X.K Wo D wl) D τ H) := by
  refine ⟨fun pins s τ H D I wish => ?_⟩
  have iok := I.ok
  have afr : X.A.frames = some (X.env :: X.outer) := by rw [iok.frames, hst]
  refine wpAny_Try_except ?_
  refine wpAny_mono ((hb (wMany X.K Wo D wl) (X.pn ++ pins) (fun u r1 => wpAny (model X.prog X.w) X.A (noteFrame u X.env) (fun _ r2 => wpAny (model X.prog X.w) X.A (setFlight u none) (fun _ r3 =>
    wpAny (model X.prog X.w) X.A (handleBy u X.env (h1 :: hl)) (SP X pins D) X.xe r3) X.xe r2) X.xe r1) (fun u t xx => ?_) PassesOwn.looking).run [] s τ H D (I.toTry _) wish) (fun f t hsp => ?_) (fun u t he => he)
  · obtain ⟨e, B, sI, pq, ρ, G, kd, d, rfl, J0, nb, up, sky0, ne, os, ag, w⟩ := xx
    have J : Inv X pins ρ G sI := J0.ofTry iok
    have sky : Sky B (X.env :: X.outer) e (Zc kd d) X.env.locals t.heap := by rw [← hst]; exact sky0
    show wpAny (model X.prog X.w) X.A (noteFrame (.ref e) X.env) _ _ _
    refine Sky.land Zc.steady afr hfr0 sky fun g3 fl3 up3 => ?_
    have J3 : Inv X pins ρ G { t with heap := g3 } := J.landed nb fl3.1 (up.trans up3) os ag
    obtain ⟨ob3, fs3, at3, z3, dt3⟩ := fl3.there
    have notIn : e ∉ frs (X.env :: X.outer) := fun m => by
      obtain ⟨_, ob, at', hn⟩ := fl3.2.2.1.mem m
      rw [at3] at at'; cases at'
      exact hn _ dt3
    have nLoc : e ≠ X.env.locals := fun z => notIn (List.mem_filterMap.mpr ⟨X.env, List.mem_cons_self, by rw [hfr0, z]⟩)
    have nFs : e ∉ X.fs := fun m => by
      obtain ⟨v, hv, q⟩ := List.mem_filterMap.mp m
      exact notIn (List.mem_filterMap.mpr ⟨v, List.mem_cons_of_mem _ hv, q⟩)
    have S3 := J3.suite at3 dt3 ne nLoc nFs
    have look : PySem.W.Looks (model X.prog X.w) g3 (typeOf (.ref e)) kd := fun A Q E r k q => wpAny_typeOf_ref (k _ _ at3) (by rw [z3.1]; exact q)
    have test : ∀ {nm : Str} {p1 : Pos} {k : Value} {Q : Value → Shared → Prop} {E : Value → Shared → Prop}, Names X nm k → Q k { t with heap := g3 } → wpAny (model X.prog X.w) (X.A.mark (some (.ref e))) (eval (.Name nm p1) X.env) Q E { t with heap := g3 } := fun {nm p1 k Q E} hk q => by
      obtain ⟨hg, hdb, hm | ⟨hm, hv, hnn⟩⟩ := hk
      · exact ld_glob (X := X.suite e ((e, ob3) :: (X.pn ++ pins))) S3 hg hm q hdb
      · exact ld_blt (X := X.suite e ((e, ob3) :: (X.pn ++ pins))) S3 hg hm hv q hnn hdb
    have all : ∀ {hl2 : List ExceptHandler} {wl2 : List (Value × (Addr → Value → Option Addr → TS))}, Cls2 X hl2 wl2 → wMany X.K Wo D wl2 kd d ρ G →
        wpAny (model X.prog X.w) X.A (handleBy (.ref e) X.env hl2) (SP X pins D) X.xe { t with heap := g3 } := by
      intro hl2 wl2 hc
      induction hc with
      | nil =>
        intro w
        refine wpAny_handleBy_nil ?_
        obtain ⟨k1, k2, k3, ob, fs, T, oT, us, he, hz, hd, hh1, hr⟩ := id fl3
        unfold PySem.passOn
        refine wpAny_bind (wpAny_field he hd hh1 ?_)
        rw [if_neg (show ¬ ((Value.ref T == Value.none) = true) from by simp)]
        have fin : wpAny (model X.prog X.w) X.A (setFlight (.ref e) X.env.frame) (fun _ r4 => wpAny (model X.prog X.w) X.A (throw (.ref e) : Sem Flow) (SP X pins D) X.xe r4) X.xe { t with heap := g3 } := by
          rw [hfr0]
          refine HandSPX.setFlight_upZ fl3 fun g4 hg4 up4 => wpAny_throw (tk _ _ ?_)
          exact ⟨e, B, sI, pins, ρ, G, kd, d, rfl, J, nb, (up.trans up3).trans up4, .inr (.inr (by rw [hst]; exact hg4)), ne, os, ag, w⟩
        first
          | exact wpAny_bind (wpAny_pure (wpAny_bind fin))
          | exact wpAny_bind fin
      | @bare nm k ts st sts p1 p2 hl3 wl3 hk su more ih =>
        intro w
        obtain ⟨b, hb1, yes, no⟩ := w
        refine wpAny_handleBy_cons (codeAny_handlers_test ?_) (by intro q; cases q)
        refine test hk ((PySem.W.exm_one (M := model X.prog X.w) (J3.kIn) look hb1).here ?_)
        cases b with
        | true =>
          refine codeAny_handlers_suite ?_
          refine HandSPX.lands_againZ fl3 fun g4 fl4 up4 => ?_
          have J4 : Inv X pins ρ G { t with heap := g4 } := J.landed nb fl4.1 ((up.trans up3).trans up4) os ag
          obtain ⟨ob4, fs4, at4, z4, dt4⟩ := fl4.there
          have S4 := J4.suite at4 dt4 ne nLoc nFs
          refine wpAny_mono ((su e ob4 kd d (X.pn ++ pins) z4 ⟨_, dt4⟩).run [] _ _ G _ S4 (yes rfl e ne)) (fun f r6 hsp => ?_) (fun _ _ z => False.elim z)
          cases f with
          | ret u =>
            obtain ⟨v6, τ6, G6, S6, rel6, q6⟩ := hsp
            exact ⟨_, _, _, S6.unsuite iok, rel6, q6⟩
          | _ =>
            obtain ⟨τ6, G6, S6, q6⟩ := hsp
            exact ⟨_, _, S6.unsuite iok, q6⟩
        | false =>
          show wpAny _ X.A (handleBy (.ref e) X.env hl3) _ _ _
          exact ih (no rfl)
      | @named nm n i k ts st sts p1 p2 hl3 wl3 nd ix lc hk su more ih =>
        intro w
        obtain ⟨b, hb1, yes, no⟩ := w
        refine wpAny_handleBy_cons (codeAny_handlers_test ?_) (by intro q; cases q)
        refine test hk ((PySem.W.exm_one (M := model X.prog X.w) (J3.kIn) look hb1).here ?_)
        cases b with
        | true =>
          refine codeAny_handlers_suite_as ?_
          refine HandSPX.lands_againZ fl3 fun g4 fl4 up4 => ?_
          have J4 : Inv X pins ρ G { t with heap := g4 } := J.landed nb fl4.1 ((up.trans up3).trans up4) os ag
          obtain ⟨ob4, fs4, at4, z4, dt4⟩ := fl4.there
          have S4 := J4.suite at4 dt4 ne nLoc nFs
          refine store_ok (X := X.suite e ((e, ob4) :: (X.pn ++ pins))) (v := .ref e) S4 nd ix (.inl lc) rfl (fun r5 S5 => ?_) (.inr lc)
          refine wpAny_mono ((su e ob4 kd d (X.pn ++ pins) z4 ⟨_, dt4⟩).run [] r5 _ G _ S5 (yes rfl e ne)) (fun f r6 hsp => ?_) (fun _ _ z => False.elim z)
          have goes : ∀ {τ6 : L2.St} {G6 : Hp} {Q : Shared → Prop}, Inv (X.suite e ((e, ob4) :: (X.pn ++ pins))) [] τ6 G6 r6 → (∀ r7, Inv X pins (τ6.set i none) G6 r7 → Q r7) →
              wpAny (model X.prog X.w) X.A (do bindName X.env n .none; unbindBehindTheSuite X.env n p2) (fun _ r7 => Q r7) X.xe r6 := fun {τ6 G6 Q} S6 hq => gone_ok (S6.unsuite iok) nd ix lc hq
          cases f with
          | ret u =>
            obtain ⟨v6, τ6, G6, S6, rel6, q6⟩ := hsp
            exact goes S6 fun r7 J7 => ⟨_, _, _, J7, rel6, q6⟩
          | _ =>
            obtain ⟨τ6, G6, S6, q6⟩ := hsp
            exact goes S6 fun r7 J7 => ⟨_, _, J7, q6⟩
        | false =>
          show wpAny _ X.A (handleBy (.ref e) X.env hl3) _ _ _
          exact ih (no rfl)
    exact all hh w
  · cases f with
    | next =>
      obtain ⟨ρ, G, J0, q⟩ := hsp
      exact wpAny_execs_nil ⟨ρ, G, J0.ofTry iok, q⟩
    | ret u =>
      obtain ⟨v, ρ, G, J0, rel, q⟩ := hsp
      exact ⟨v, ρ, G, J0.ofTry iok, rel, q⟩
    | _ =>
      obtain ⟨ρ, G, J0, q⟩ := hsp
      exact ⟨ρ, G, J0.ofTry iok, q⟩
end
end Jv

/-! ### trees of lists that are new: each list at its own place, so that one may change -/
namespace Jv
open PySem PySem.Spec PyProof.Rows L2
mutual
inductive Ft (K : PySem.W.Frag) (H : Hp) : V → PyData → List Addr → Prop
  | non : Ft K H .non .none []
  | bl (b : Bool) : Ft K H (.bl b) (.bool b) []
  | int (i : Int) : Ft K H (.int i) (.int i) []
  | str (x : Str) : Ft K H (.str x) (.str x) []
  | lst {a : Addr} {xs : List V} {ds : List PyData} {A : List Addr} : H a = some (.lst xs) → FtAll K H xs ds A → a ∉ A → Ft K H (.ref a) (.list ds) (a :: A)
inductive FtAll (K : PySem.W.Frag) (H : Hp) : List V → List PyData → List Addr → Prop
  | nil : FtAll K H [] [] []
  | cons {v : V} {vs : List V} {d : PyData} {ds : List PyData} {A B : List Addr} : Ft K H v d A → FtAll K H vs ds B → (∀ a ∈ A, a ∉ B) → FtAll K H (v :: vs) (d :: ds) (A ++ B)
end
mutual
theorem Ft.dv {K : PySem.W.Frag} {H : Hp} : ∀ {v : V} {d : PyData} {A : List Addr}, Ft K H v d A → Dv K H v d
  | _, _, _, .non => .non
  | _, _, _, .bl b => .bl b
  | _, _, _, .int i => .int i
  | _, _, _, .str x => .str x
  | _, _, _, .lst h q _ => .lst h (FtAll.dv q)
theorem FtAll.dv {K : PySem.W.Frag} {H : Hp} : ∀ {vs : List V} {ds : List PyData} {A : List Addr}, FtAll K H vs ds A → DvAll K H vs ds
  | _, _, _, .nil => .nil
  | _, _, _, .cons a b _ => .cons (Ft.dv a) (FtAll.dv b)
end
mutual
/-- what is kept at the tree's own places keeps the tree -/
theorem Ft.keep {K : PySem.W.Frag} {H H' : Hp} : ∀ {v : V} {d : PyData} {A : List Addr}, Ft K H v d A → (∀ a ∈ A, ∀ o, H a = some o → H' a = some o) → Ft K H' v d A
  | _, _, _, .non, _ => .non
  | _, _, _, .bl b, _ => .bl b
  | _, _, _, .int i, _ => .int i
  | _, _, _, .str x, _ => .str x
  | _, _, _, .lst h q n, s => .lst (s _ List.mem_cons_self _ h) (FtAll.keep q fun a m => s a (List.mem_cons_of_mem _ m)) n
theorem FtAll.keep {K : PySem.W.Frag} {H H' : Hp} : ∀ {vs : List V} {ds : List PyData} {A : List Addr}, FtAll K H vs ds A → (∀ a ∈ A, ∀ o, H a = some o → H' a = some o) → FtAll K H' vs ds A
  | _, _, _, .nil, _ => .nil
  | _, _, _, .cons a b n, s => .cons (Ft.keep a fun c m => s c (List.mem_append_left _ m)) (FtAll.keep b fun c m => s c (List.mem_append_right _ m)) n
end
section
variable {K : PySem.W.Frag} {H H' : Hp}
theorem FtAll.ints : ∀ ns : List Int, FtAll K H (ns.map V.int) (ns.map PyData.int) []
  | [] => .nil
  | a :: r => by
    have h := FtAll.cons (A := []) (B := []) (Ft.int (K := K) (H := H) a) (FtAll.ints r) (fun _ m => nomatch m)
    exact h
theorem FtAll.app : ∀ {vs ws : List V} {ds es : List PyData} {A B : List Addr}, FtAll K H vs ds A → FtAll K H ws es B → (∀ a ∈ A, a ∉ B) → FtAll K H (vs ++ ws) (ds ++ es) (A ++ B)
  | _, _, _, _, _, _, .nil, q, _ => q
  | _, ws, _, es, _, B, .cons (A := A1) (B := B1) a b n, q, dj => by
    rw [List.cons_append, List.cons_append, List.append_assoc]
    refine .cons a (FtAll.app b q fun c m => dj c (List.mem_append_right _ m)) fun c m => ?_
    intro m2
    rcases List.mem_append.mp m2 with h | h
    · exact n c m h
    · exact dj c (List.mem_append_left _ m) h
theorem FtAll.len : ∀ {vs : List V} {ds : List PyData} {A : List Addr}, FtAll K H vs ds A → vs.length = ds.length
  | _, _, _, .nil => rfl
  | _, _, _, .cons _ b _ => congrArg (· + 1) (FtAll.len b)
/-- one of them, and what a change within it makes of all -/
theorem FtAll.chg : ∀ {vs : List V} {ds : List PyData} {A : List Addr} {i : Nat} {v : V}, FtAll K H vs ds A → vs[i]? = some v → ∃ d B, ds[i]? = some d ∧ Ft K H v d B ∧ (∀ a ∈ B, a ∈ A) ∧
    (∀ w e H', (∀ a ∈ A, a ∉ B → ∀ o, H a = some o → H' a = some o) → Dv K H' w e → DvAll K H' (vs.set i w) (ds.set i e))
  | _, _, _, _, _, .nil, e => by simp at e
  | _, _, _, 0, v, .cons (A := A1) (B := B1) a b n, e => by
    simp at e; subst e
    refine ⟨_, A1, rfl, a, fun c m => List.mem_append_left _ m, fun w e H' s dv => ?_⟩
    exact .cons dv (b.keep fun c m => s c (List.mem_append_right _ m) fun m2 => n c m2 m).dv
  | _, _, _, i + 1, v, .cons (A := A1) (B := B1) a b n, e => by
    simp at e
    obtain ⟨d, B, h1, h2, h3, h4⟩ := FtAll.chg b e
    refine ⟨d, B, h1, h2, fun c m => List.mem_append_right _ (h3 c m), fun w e H' s dv => ?_⟩
    refine .cons (a.keep fun c m => s c (List.mem_append_left _ m) fun m2 => n c m (h3 c m2)).dv (h4 w e H' (fun c m m2 => s c (List.mem_append_right _ m) m2) dv)
mutual
theorem Ft.held : ∀ {v : V} {d : PyData} {A : List Addr}, Ft K H v d A → ∀ a ∈ A, ∃ xs, H a = some (.lst xs)
  | _, _, _, .lst h q _, a, m => by
    rcases List.mem_cons.mp m with rfl | m
    · exact ⟨_, h⟩
    · exact FtAll.held q a m
theorem FtAll.held : ∀ {vs : List V} {ds : List PyData} {A : List Addr}, FtAll K H vs ds A → ∀ a ∈ A, ∃ xs, H a = some (.lst xs)
  | _, _, _, .cons x y _, a, m => by
    rcases List.mem_append.mp m with m | m
    · exact Ft.held x a m
    · exact FtAll.held y a m
end
theorem Ft.same {v : V} {d : PyData} {A : List Addr} (h : Ft K H v d A) (s : Same H H') : Ft K H' v d A := h.keep fun a _ o e => s a o e
end
section
variable {K : PySem.W.Frag} {σ : L2.St} {H : Hp} {te te0 : TE} {Q : VK} {xs : List V} {es : List PyData} {j i n : Nat} {x : V} {J : It} {G : Hp → Prop} {Y : Nat → Hp → V → Hp → Prop} {F : Nat → V → Prop}
theorem lcNew (w : Walk J n G Y) (hG : ∀ H', Same H H' → G H') (hy : ∀ i H x H', i < n → Y i H x H' → H' = H ∧ F i x) (es : List PyData) (hl : es.length = n) (few : n ≤ 1000)
    (hs : ∀ i v e D H1, i < n → F i v → es[i]? = some e → Same H H1 → H D = none → (∃ o, H1 D = some o) → ∀ P : VK, (∀ y A H2, Same H1 H2 → Ft K H2 y e A → (∀ a ∈ A, H1 a = none) → P y H2) → te ((σ.set j none).set j (some v)) H1 P)
    (hd : ∀ D A H1, Same H H1 → Ft K H1 (.ref D) (.list es) A → (∀ a ∈ A, H a = none) → Q (.ref D) H1) : ∀ D, H D = none → ∃ W : Nat → Nat → Hp → Prop, (∃ m, W 0 m (upd H D (.lst []))) ∧ ∀ i m H, W i m H →
      (J.stop i H ∧ Q (.ref D) H) ∨ (J.go i H ∧ ∃ Nx : Hp → Prop, (∀ H', Nx H' → ∃ m', m' < m ∧ W (i + 1) m' H') ∧ ∀ x H', J.yld i H x H' → gName j x (wipe σ [j]) H' fun σ2 H2 => wipe σ2 [j] = wipe σ [j] ∧ tYes σ2 H2 fun b H3 =>
        if b = true then te σ2 H3 fun y H4 => ∃ acc, H4 D = some (.lst acc) ∧ acc.length < sizeLine ∧ Nx (upd H4 D (.lst (acc ++ [y]))) else Nx H3) := by
  intro D hD
  refine lc_it w (fun i H1 => Same H H1 ∧ ∃ ys A, H1 D = some (.lst ys) ∧ FtAll K H1 ys (es.take i) A ∧ ∀ a ∈ A, H a = none ∧ a ≠ D) ⟨same_new hD, [], [], upd_same, .nil, fun _ m => nomatch m⟩ (fun i H1 _ h => hG H1 h.1) ?_ ?_
  · rintro i x H1 H2 hi ⟨s1, ys, A, e1, al, fr⟩ hx
    obtain ⟨e0, hF⟩ := hy i _ _ _ hi hx
    subst e0
    refine ⟨wipe1, ?_⟩
    refine r_yes ?_
    refine r_true (c := true) rfl ?_
    have hie : i < es.length := by omega
    have he := List.getElem?_eq_getElem hie
    refine hs i x _ D _ hi hF he s1 hD ⟨_, e1⟩ _ fun y B H3 s3 dy nB => ⟨_, s3 _ _ e1, ?_, ?_, _, A ++ B, upd_same, ?_, ?_⟩
    · rw [al.len, List.length_take]; exact small_lt (by omega)
    · intro b o e; exact kpO (s3 _ _ (s1 b o e)) (ne_of_none e hD)
    · rw [take_more he]
      have nD : ∀ a ∈ B, a ≠ D := fun a m z => by have := nB a m; rw [z, e1] at this; cases this
      have q : FtAll K (upd H3 D (.lst (ys ++ [y]))) [y] [es[i]] B := by
        have q2 : Ft K (upd H3 D (.lst (ys ++ [y]))) y es[i] B := dy.keep fun a m o e => kpO e (nD a m)
        have q3 := FtAll.cons q2 (FtAll.nil (K := K)) (fun a _ => by simp)
        rw [List.append_nil] at q3
        exact q3
      refine FtAll.app (al.keep fun a m o e => kpO (s3 _ _ e) (fr a m).2) q fun a m m2 => ?_
      obtain ⟨zs, hz⟩ := al.held a m
      rw [nB a m2] at hz; cases hz
    · intro a m
      rcases List.mem_append.mp m with m | m
      · exact fr a m
      · have h1 := nB a m
        refine ⟨?_, fun z => by rw [z, e1] at h1; cases h1⟩
        cases e : H a with
        | none => rfl
        | some o => rw [s1 a o e] at h1; cases h1
  · rintro H1 ⟨s1, ys, A, e1, al, fr⟩
    rw [List.take_of_length_le (by omega)] at al
    exact hd D (D :: A) H1 s1 (.lst e1 al fun m => (fr D m).2 rfl) fun a m => by
      rcases List.mem_cons.mp m with rfl | m
      · exact hD
      · exact (fr a m).1
theorem lcNew2 (hv : σ[i]? = some (some x)) (hx : Sk K H x xs) (es : List PyData) (hl : es.length = xs.length) (few : xs.length ≤ 1000)
    (hs : ∀ i v e D H1, i < xs.length → xs[i]? = some v → es[i]? = some e → Same H H1 → H D = none → (∃ o, H1 D = some o) → ∀ P : VK, (∀ y A H2, Same H1 H2 → Ft K H2 y e A → (∀ a ∈ A, H1 a = none) → P y H2) → te ((σ.set j none).set j (some v)) H1 P)
    (hd : ∀ D A H1, Same H H1 → Ft K H1 (.ref D) (.list es) A → (∀ a ∈ A, H a = none) → Q (.ref D) H1) : tLc (fun σ H R => iList K (tVar i) σ H R ∨ iTup K (tVar i) σ H R) (gName j) tYes te [j] σ H Q := by
  obtain ⟨a, rfl, h | h⟩ := hx
  · exact .inl ⟨_, hv, a, rfl, ⟨xs, h⟩, lcNew walk_list (fun H' s => s.seq h) yat es hl few hs hd⟩
  · exact .inr ⟨_, hv, a, rfl, ⟨xs, h⟩, lcNew walk_tup (fun H' s => Jv.Same.sqT s h) yat es hl few hs hd⟩
end
section
variable {K : PySem.W.Frag} {g : TG} {tb : TS} {D : Ends} {σ : L2.St} {H : Hp} {xs : List V} {x : V} {i : Nat}
/-- a loop over a name that holds a list or a tuple that stays -/
theorem for_sk (hv : σ[i]? = some (some x)) (hx : Sk K H x xs) (Pv : Nat → L2.St → Hp → Prop) (h0 : Pv 0 σ H) (hl : ∀ j σ' H', Pv j σ' H' → Same H H')
    (hs : ∀ j v σ' H', xs[j]? = some v → Pv j σ' H' → g v σ' H' fun σ2 H2 => tb { D with nx := Pv (j + 1), ct := Pv (j + 1), bk := D.nx } σ2 H2) (hd : ∀ σ' H', Pv xs.length σ' H' → D.nx σ' H') :
    iList K (tVar i) σ H (fun it H1 => ∃ W : Nat → Nat → L2.St → Hp → Prop, (∃ m, W 0 m σ H1) ∧ ∀ i m σ H, W i m σ H →
      (it.stop i H ∧ D.nx σ H) ∨ (it.go i H ∧ ∃ N : L2.St → Hp → Prop, (∀ σ' H', N σ' H' → ∃ m', m' < m ∧ W (i + 1) m' σ' H') ∧ ∀ x H', it.yld i H x H' → g x σ H' fun σ2 H2 => tb { D with nx := N, ct := N, bk := D.nx } σ2 H2)) ∨
    iTup K (tVar i) σ H (fun it H1 => ∃ W : Nat → Nat → L2.St → Hp → Prop, (∃ m, W 0 m σ H1) ∧ ∀ i m σ H, W i m σ H →
      (it.stop i H ∧ D.nx σ H) ∨ (it.go i H ∧ ∃ N : L2.St → Hp → Prop, (∀ σ' H', N σ' H' → ∃ m', m' < m ∧ W (i + 1) m' σ' H') ∧ ∀ x H', it.yld i H x H' → g x σ H' fun σ2 H2 => tb { D with nx := N, ct := N, bk := D.nx } σ2 H2)) := by
  obtain ⟨a, rfl, h | h⟩ := hx
  · exact .inl ⟨_, hv, a, rfl, ⟨xs, h⟩, for_list (xs := xs) Pv h0 (fun j σ' H' _ p => (hl j σ' H' p).seq h) hs hd⟩
  · exact .inr ⟨_, hv, a, rfl, ⟨xs, h⟩, for_tup (xs := xs) Pv h0 (fun j σ' H' _ p => Jv.Same.sqT (hl j σ' H' p) h) hs hd⟩
end
section
variable {K : PySem.W.Frag} {g : TG} {tb : TS} {D : Ends} {σ : L2.St} {H H0 : Hp} {xs : List V} {x : V} {i : Nat}
/-- the same with the sequence in an earlier heap -/
theorem for_sk0 (hv : σ[i]? = some (some x)) (hx : Sk K H0 x xs) (s0 : Same H0 H) (Pv : Nat → L2.St → Hp → Prop) (h0 : Pv 0 σ H) (hl : ∀ j σ' H', Pv j σ' H' → Same H0 H')
    (hs : ∀ j v σ' H', xs[j]? = some v → Pv j σ' H' → g v σ' H' fun σ2 H2 => tb { D with nx := Pv (j + 1), ct := Pv (j + 1), bk := D.nx } σ2 H2) (hd : ∀ σ' H', Pv xs.length σ' H' → D.nx σ' H') :
    iList K (tVar i) σ H (fun it H1 => ∃ W : Nat → Nat → L2.St → Hp → Prop, (∃ m, W 0 m σ H1) ∧ ∀ i m σ H, W i m σ H →
      (it.stop i H ∧ D.nx σ H) ∨ (it.go i H ∧ ∃ N : L2.St → Hp → Prop, (∀ σ' H', N σ' H' → ∃ m', m' < m ∧ W (i + 1) m' σ' H') ∧ ∀ x H', it.yld i H x H' → g x σ H' fun σ2 H2 => tb { D with nx := N, ct := N, bk := D.nx } σ2 H2)) ∨
    iTup K (tVar i) σ H (fun it H1 => ∃ W : Nat → Nat → L2.St → Hp → Prop, (∃ m, W 0 m σ H1) ∧ ∀ i m σ H, W i m σ H →
      (it.stop i H ∧ D.nx σ H) ∨ (it.go i H ∧ ∃ N : L2.St → Hp → Prop, (∀ σ' H', N σ' H' → ∃ m', m' < m ∧ W (i + 1) m' σ' H') ∧ ∀ x H', it.yld i H x H' → g x σ H' fun σ2 H2 => tb { D with nx := N, ct := N, bk := D.nx } σ2 H2)) := by
  obtain ⟨a, rfl, h | h⟩ := hx
  · exact .inl ⟨_, hv, a, rfl, ⟨xs, s0.seq h⟩, for_list (xs := xs) Pv h0 (fun j σ' H' _ p => (hl j σ' H' p).seq h) hs hd⟩
  · exact .inr ⟨_, hv, a, rfl, ⟨xs, Jv.Same.sqT s0 h⟩, for_tup (xs := xs) Pv h0 (fun j σ' H' _ p => Jv.Same.sqT (hl j σ' H' p) h) hs hd⟩
end
/-- a tree without lists needs no list -/
theorem sqT_hide {K : PySem.W.Frag} {H : Hp} {N : List Addr} (hN : ∀ b ∈ N, ∃ ys, H b = some (.lst ys)) {a : Addr} {xs : List V} (h : SqT K H a xs) : SqT K (hide N H) a xs := by
  rcases h with (h | ⟨o, h⟩) | h
  · exact .inl (.inl (hide_at (fun m => by obtain ⟨ys, e⟩ := hN a m; rw [h] at e; cases e) h))
  · exact .inl (.inr ⟨o, hide_at (fun m => by obtain ⟨ys, e⟩ := hN a m; rw [h] at e; cases e) h⟩)
  · exact .inr h
theorem DvAll.imp {K : PySem.W.Frag} {H H' : Hp} : ∀ {vs : List V} {ds : List PyData}, DvAll K H vs ds → (∀ v d, d ∈ ds → Dv K H v d → Dv K H' v d) → DvAll K H' vs ds
  | _, _, .nil, _ => .nil
  | _, _, .cons a b, f => .cons (f _ _ List.mem_cons_self a) (DvAll.imp b fun v d m => f v d (List.mem_cons_of_mem _ m))
end Jv

/-! ### repr of a container: where no text of a container is under way (guards known) -/
namespace Jv
open PySem PySem.Spec PyProof.Rows L2
/-- a def's promise where no text of a container is under way -/
structure FnG (P : Program) (w : World) (K : PySem.W.Frag) (mg : Str → Option Value) (base : Heap) (CX : CXT) (k : Nat) (f : Addr) (fd : FuncData) (ps : List Str) (sp : Sp) : Prop where
  long : ∀ vs H Q E, sp vs H Q E → vs.length = ps.length
  goes : ∀ A outer s H args us vs Q E, A.guards = some [] → Room k A →
    Env0 P w K mg base A outer s H → BindsTo s fd args (ps.zip us) → Vals vs us → sp vs H Q E →
      codeAny (model P w) A (.call (.ref f) args) (CR CX outer P w H s Q E) s
section
variable {P : Program} {w : World} {K : PySem.W.Frag} {mg : Str → Option Value} {base : Heap} {CX : CXT} {k : Nat} {f : Addr} {fd : FuncData} {ps : List Str} {sp : Sp}
theorem FnG.of (F : FnOk P w K mg base CX k f fd ps sp) : FnG P w K mg base CX k f fd ps sp := ⟨F.len, fun A o s H a us vs Q E _ => F.run A o s H a us vs Q E⟩
/-- a def whose body may ask for the text of a container -/
theorem fun_okG {x qual : Str} {st : Stmt} {N : List Str} (F : Fun K x qual st f fd) (S : FnScope N ps (defScope st)) (hl : ∀ vs H Q E, sp vs H Q E → vs.length = ps.length)
    (body : ∀ (cdv : Value) (A : Around) (outer : List Env) (s : Shared) (H : Hp) (vs : List V) (Q : VK) (E : XK), A.guards = some [] → Room k (A.deeper (envOfC qual (defScope st) s.heap.objs.size f cdv)) → sp vs H Q E →
      ∃ t, PSs (cxOf CX0 P w K mg base N qual (defScope st) f cdv A outer s H E).nox (defBody st) t ∧ t { nx := fun _ H' => Q .non H', rt := Q } (start N vs) H) : FnG P w K mg base CX0 (k + 1) f fd ps sp := by
  obtain ⟨c1, c2, c3, c4, c5, c6, c7, c8, c9, rfl, here, rec⟩ := F.ex
  refine ⟨hl, fun A outer s H args us vs Q E gd room e0 bd rv hs => ?_⟩
  have up : ∀ b o, base.get? b = some o → s.heap.get? b = some o := fun b o q => (e0.bs b o q).1
  have kin : K.In s.heap := e0.mod.kin.keeps up
  refine codeAny_call_function room.depth (kin _ _ here) rfl S.co S.gen rfl (PySem.W.codeRec_of kin rec) (bd _ _ _ _ ?_)
  refine wpAny_newFunctionEnv_cells S.kind (fun y hy => ?_) fun env he s1 inC => ?_
  · rcases S.par y.1 (List.of_mem_zip (show (y.1, y.2) ∈ _ from hy)).1 with q | q
    · exact Or.inl q
    · exact Or.inr ⟨q, PySem.W.cellsFrom_some _ _ _ (Or.inl q)⟩
  cases he
  refine ⟨(e0.mod.nolimit.keeps up).keeps inC.toInCall.keep, codeAny_func ?_⟩
  obtain ⟨t, pt, q⟩ := body c7 A outer s H vs Q E gd (room.deeper _) hs
  refine wpAny_mono (pt.nox.run [] s1 _ H _ (inv_start S room.hd e0 (hl _ _ _ _ hs) rv inC) q) (fun fl s' z => ?_) fun _ _ z => z
  have done : ∀ (σ' : L2.St) (H' : Hp) (v : V) (u : Value), Inv (cxOf CX0 P w K mg base N qual (defScope st) f c7 A outer s H E) [] σ' H' s' → RelV v u → Q v H' → CE outer P w H s Q u s' :=
    fun σ' H' v u J r q => ⟨v, H', J.os, J.bare, J.base, J.hok, r, q⟩
  cases fl
  case ret u => exact let ⟨v, σ', H', J, r, q⟩ := z; done σ' H' v u J r q
  case next => exact let ⟨σ', H', J, q⟩ := z; done σ' H' .non .none J rfl q
  case brk => exact let ⟨_, _, _, q⟩ := z; (q : False).elim
  case cont => exact let ⟨_, _, _, q⟩ := z; (q : False).elim
end
/-! ### the text of a container -/
def rRepr (K : PySem.W.Frag) : List V → Hp → VK → Prop := fun xs H Q => ∃ a d, xs = [.ref a] ∧ Dp K H (.ref a) d ∧ d.canLay0 = true ∧ d.depth ≤ 60 ∧ d.showable = true ∧ d.shown.length ≤ sizeLine ∧ Q (.str d.shown) H
theorem call_repr {X : Cx} (hg : X.A.guards = some []) (hu : X.A.units + 64 < cLine) : CallR X (.builtin "repr") (rRepr X.K) := by
  intro pins s σ H xs us Q I r h
  obtain ⟨a, d, rfl, dp, c1, c2, c3, c4, q⟩ := h
  obtain ⟨u, rfl, ru⟩ := r.one
  cases (show u = Value.ref a from ru)
  obtain ⟨as, rd⟩ := Dp.reads I d (.ref a) (.ref a) dp rfl
  refine repr_of_reads' rd c3 (fun z => by rw [PyData.hasDict_of_canLay d c1] at z; cases z) hg (by omega) (fun _ _ e => e) (fun h' u tk k => ?_) c4
  exact ⟨.str d.shown, H, I.kept (t' := tk) k, ⟨_, rfl⟩, q⟩
theorem gd_body {CX : CXT} {P : Program} {w : World} {K : PySem.W.Frag} {mg : Str → Option Value} {base : Heap} {N : List Str} {qual : Str} {scope : Scope} {f : Addr} {cd : Value} {A : Around} {outer : List Env} {s : Shared} {H : Hp} {E : XK} (h : A.guards = some []) :
    (cxOf CX P w K mg base N qual scope f cd A outer s H E).nox.A.guards = some [] := h
/-! ### the end of a law whose def asks for the text of a container -/
section
variable {P : Program} {w : World} {K : PySem.W.Frag} {mg mb : Str → Option Value} {CX : CXT} {k : Nat} {fa a : Addr} {fd : FuncData} {x : Str} {sp : Sp} {z : Shared} {vs : List Value} {ns : List Int}
theorem lawG (kin : K.In z.heap) (gl : z.heap.Ns mainGlobals mg) (bi : z.heap.Ns builtinsNs mb) (bb : ∀ y : Str, y ≠ "__name__" → mb y = bootBuiltins y) (nl : z.heap.NoLimit) (gn : z.gens = #[])
    (ea : z.heap.get? a = some { cls := .type "list", data := .seq vs.toArray }) (hi : IntsAre vs ns) (few : ns.length ≤ sizeLine) (room : Room k callerA)
    (F : ∀ base : Heap, K.In base → base.Ns mainGlobals mg → FnG P w K mg base CX k fa fd [x] sp) (bd : ∀ (s : Shared) (u : Value), BindsTo s fd ⟨[u], []⟩ [(x, u)])
    (says : ∀ H : Hp, Only H → SqL K H a (ns.map V.int) → sp [.ref a] H (fun v _ => v = .bl true) fun _ _ _ => False) (quiet : ∀ H e s', CX [] H z (fun _ _ _ => False) e s' → False) :
    codeAny (model P w) callerA (.call (.ref fa) ⟨[.ref a], []⟩) (fun r s' => r = .ok (.ret (.bool true)) ∧ OldK z.heap s'.heap ∧ s'.os = z.os ∧ AllBare s'.gens) z := by
  -- H tracks the script at most, and that only where it is none of the module's objects
  have main : ∀ H : Hp, Only H → (∀ b, ¬ H b = none → b = a ∧ K.lookup a = none) → SqL K H a (ns.map V.int) → HOk P w H z.heap →
      codeAny (model P w) callerA (.call (.ref fa) ⟨[.ref a], []⟩) (fun r s' => r = .ok (.ret (.bool true)) ∧ OldK z.heap s'.heap ∧ s'.os = z.os ∧ AllBare s'.gens) z := fun H only tr sq ok => by
    have dictOff : ∀ {b : Addr} {o : Obj} {es : Array DictEntry} {n : Nat}, z.heap.get? b = some o → o.data = .dict es n → H b = none := fun {b o es n} e d =>
      Classical.byContradiction fun t => by
        obtain ⟨rfl, _⟩ := tr b t
        rw [ea] at e
        cases e
        exact nomatch (show Data.seq vs.toArray _ = Data.dict es n from d)
    have spaces : ∀ {b : Addr} {m : Str → Option Value}, z.heap.Ns b m → (hidT z.heap H).Ns b m := fun q => by
      obtain ⟨o, es, n, e, d, r⟩ := q
      exact ⟨o, es, n, hidT_get e (dictOff e d), d, r⟩
    have own : K.In (hidT z.heap H) := fun b o q => hidT_get (kin b o q) (Classical.byContradiction fun t => by
      obtain ⟨rfl, n⟩ := tr b t
      rw [n] at q
      cases q)
    obtain ⟨ml, l1, l2⟩ := nl
    have start : Env0 P w K mg (hidT z.heap H) callerA [] z H :=
      { frames := rfl, mod := ⟨own, spaces gl, ⟨mb, spaces bi, bb⟩, ml, spaces l1, l2⟩, bs := fun _ _ q => of_hidT q, bsz := Nat.le_of_eq (hidT_size _ _), funs := trivial,
        frf := fun b q => (List.not_mem_nil q).elim, hok := ok, bare := .of_eq gn }
    refine codeAny_mono ((F _ own (spaces gl)).goes callerA [] z H ⟨[.ref a], []⟩ [.ref a] [.ref a] _ _ rfl room start (bd z (.ref a)) (.cons rfl .nil) (says H only sq)) fun r s' q => ?_
    match r, q with
    | .error e, q => exact (quiet H e s' q).elim
    | .ok .next, q => exact False.elim q
    | .ok .brk, q => exact False.elim q
    | .ok .cont, q => exact False.elim q
    | .ok (.ret u), q =>
      obtain ⟨v, H', os, bare, un, ok', rv, (rfl : v = .bl true)⟩ := q
      obtain rfl : u = Value.bool true := rv
      refine ⟨rfl, OldK.of_keep fun b o e => ?_, os, bare⟩
      rcases only b with n | ⟨ob, xs, t⟩
      · exact un.keep b o e n (fun m => (List.not_mem_nil m).elim) List.not_mem_nil
      · obtain ⟨h1, _⟩ := ok b _ t
        obtain ⟨h2, _⟩ := ok' b _ (un.frzs b ob _ t)
        rw [e] at h1
        cases h1
        exact h2
  have rv := vals_ints hi
  have nv := hi.length
  by_cases hk : K.lookup a = none
  · obtain ⟨S, hS⟩ : ∃ S : Hp, S = fun b => if b = a then some (HO.frz { cls := .type "list", data := .seq vs.toArray } (.lst (ns.map V.int))) else none := ⟨_, rfl⟩
    have seen : S a = some (.frz { cls := .type "list", data := .seq vs.toArray } (.lst (ns.map V.int))) := by rw [hS]; exact if_pos rfl
    have other : ∀ b, b ≠ a → S b = none := fun b e => by rw [hS]; exact if_neg e
    clear hS
    refine main S (fun b => ?_) (fun b t => ?_) (.inl (.inr ⟨_, seen⟩)) (fun b u t => ?_)
    · by_cases e : b = a
      · exact .inr ⟨_, _, by rw [e]; exact seen⟩
      · exact .inl (other b e)
    · exact ⟨Classical.byContradiction fun e => t (other b e), hk⟩
    · by_cases e : b = a
      · subst e
        rw [seen] at t
        cases t
        exact ⟨ea, by rw [List.length_map]; exact few, vs, _, rv, ea⟩
      · exact nomatch (other b e).symm.trans t
  · obtain ⟨o, q⟩ := Option.ne_none_iff_exists'.mp hk
    have e := kin a o q
    rw [ea] at e
    cases e
    exact main (fun _ => none) (fun _ => .inl rfl) (fun _ t => (t rfl).elim) (.inr ⟨_, vs.toArray, _, q, rfl, rfl, rfl, by rw [List.size_toArray, nv]; exact few, by simpa using rv⟩) fun _ _ t => nomatch (show (none : Option HO) = some _ from t)
end
theorem walkG {l : PySem.W.OpenLaw} {n k : Nat} {q : Program} {loose : List Str} {XP : (Str → Option Value) → Heap → Prop} {YP : World → Heap → Prop} {d : DefRec} {K : Params → PySem.W.Frag} {sp : World → Sp} {x : Str}
    (h1 : l.most = some n) (h2 : n ≤ sizeLine) (h3 : d.params.defaults = []) (h4 : Room k callerA) (h5 : ∀ (w : World) (h : Heap), YP w h → (K w.params).In h)
    (F : ∀ (w : World) (mg : Str → Option Value) (fa : Addr) (h : Heap), (K w.params).In h → h.Ns mainGlobals mg → mg d.name = some (.ref fa) → ∃ fd : FuncData, (∀ (s : Shared) (u : Value), BindsTo s fd ⟨[u], []⟩ [(x, u)]) ∧
      ∀ base : Heap, (K w.params).In base → base.Ns mainGlobals mg → FnG l.prog w (K w.params) mg base CX0 k fa fd [x] (sp w))
    (says : ∀ (w : World) (H : Hp) (a : Addr) (ns : List Int), ns.length ≤ n → Only H → SqL (K w.params) H a (ns.map V.int) → sp w [.ref a] H (fun v _ => v = .bl true) fun _ _ _ => False)
    (quiet : ∀ (w : World) (H : Hp) (s : Shared) (e : Value) (s' : Shared), CX0 [] H s (fun _ _ _ => False) e s' → False) :
    PySem.W.WalkO q loose XP YP l.row.toRowW d [] (fun f vs => PySem.call f vs) :=
  Att.attach_call h1 h3 fun w s₀ s₁ mg mb fa o pm cd doc a vs ns G Y ho hd hcd hmg hobj hints hlen hg => by
    obtain ⟨fd, bd, hF⟩ := F w mg fa _ (h5 w _ Y) G.T.g hmg
    exact lawG (h5 w _ Y) G.T.g G.T.b G.T.builtins G.T.nolimit hg hobj hints (Nat.le_trans hlen h2) h4 hF bd (fun H only sq => says w H a ns hlen only sq) fun H e s' => quiet w H s₁ e s'
end Jv

/-! ### isinstance of an exception that an except clause has caught -/
namespace Jv
open PySem PySem.Spec PyProof.Rows L2
structure XiC (K : PySem.W.Frag) (C : Addr) : Prop where
  cl : (PySem.W.clsIn K C).isSome = true
  ga : PySem.W.findIn K (.ref C) "__getattribute__" = some (some (.builtin "BaseException.__getattribute__"))
  gg : PySem.W.findIn K (.ref C) "__getattr__" = some none
  ex : PySem.W.subIn K (.ref C) (.type "BaseException") = some true
  ca : PySem.W.findIn K (.ref C) "__class__" = some (some (.builtin "object.__class__"))
  sp : PySem.W.specialIn K (.builtin "object.__class__") "__get__" = some (some (.builtin "getset_descriptor.__get__"))
  tk : PySem.W.takesIn K (.builtin "object.__class__") = some true
  mr : PySem.W.mroIn K C (.type "object") = some true
/-- isinstance(e, c): a the caught one, of an own class C, that has no fields -/
def rIsX (K : PySem.W.Frag) (a : Addr) (cls : Value) (d : Option Addr) : List V → Hp → VK → Prop := fun xs H Q => ∃ (C : Addr) (c : V) (u : Value) (b : Bool), cls = .ref C ∧ d = none ∧ XiC K C ∧ xs = [.ref a, c] ∧ ClsV c u ∧ PySem.W.kitOne K (.ref C) u = some b ∧ Q (.bl b) H
theorem call_isX {X : Cx} {a : Addr} {cls : Value} {d : Option Addr} {oe : Obj} {pn : List (Addr × Obj)} (hz : Zc cls d oe) (hf : ∃ vs, oe.data = .fields vs) : CallR (X.suite a ((a, oe) :: pn)) (.builtin "isinstance") (rIsX X.K a cls d) := by
  intro pins s σ H xs us Q I r h
  obtain ⟨C, c, u, b, rfl, rfl, T, rfl, k, e, q⟩ := h
  obtain ⟨u1, u2, rfl, r1, r2⟩ := vals2 r
  have e2 := k.eq r2
  subst e2
  obtain rfl : u1 = Value.ref a := r1
  obtain ⟨ha, _⟩ := I.pin (a, oe) (List.mem_append_left _ List.mem_cons_self)
  obtain ⟨vs, hd⟩ := hf
  have J : PySem.W.InstAt s.heap a oe C none := ⟨ha, hz.1, by unfold PySem.W.notCls; rw [hd] <;> rfl, by rw [hz.2]; trivial⟩
  exact PySem.W.kia_one (PySem.W.kitx_exc T.cl T.ga T.gg T.ex T.ca T.sp T.tk T.mr) I.kIn J e (fun z => nomatch z) fun tk => ⟨.bl b, H, I.tok tk, rfl, q⟩
theorem takes_len {X : Cx} {W : WX} (t : Takes X W) : Takes X (fun cls d σ H => σ.length = X.N.length → W cls d σ H) := fun u s' ⟨a, B, sI, pins, σ, H, cls, d, e, I, nb, up, sky, na, os, ag, w⟩ =>
  t u s' ⟨a, B, sI, pins, σ, H, cls, d, e, I, nb, up, sky, na, os, ag, w I.len⟩
/-- a call whose wish of raises is chosen at the call -/
theorem pe_exL {X : Cx} {e : Expr} {W : WX} {t : XK → TE} {n : Nat} (hn : X.N.length = n) (tk : Takes X W) (h : ∀ (E : XK) (W' : WX), Takes X W' → (∀ cls d σ' H', E cls d H' → W' cls d σ' H') → PE X e (t E)) :
    PE X e (fun σ H Q => ∃ E : XK, (∀ cls d σ' H', E cls d H' → σ'.length = n → W cls d σ' H') ∧ t E σ H Q) := by
  subst hn
  exact ⟨fun pins s σ H Q I hh => by
    obtain ⟨E, hW, q⟩ := hh
    exact (h E _ (takes_len tk) hW).run pins s σ H Q I q⟩
theorem slots3 {σ : L2.St} (h : σ.length = 3) : ∃ x y z, σ = [x, y, z] := by
  match σ, h with
  | [x, y, z], _ => exact ⟨x, y, z, rfl⟩
end Jv

/-! ### tuples whose object is known: displays, sums; .index of a list or of such a tuple; repr of anything; calls where no text is under way -/
namespace Jv
open PySem PySem.Spec PyProof.Rows L2
/-- tuples of which is known that they have no dict of their own -/
def FzT (H : Hp) (t : Addr) : Prop := ∃ o u, H t = some (.frz o u) ∧ o.cls = .type "tuple" ∧ o.dict = none
theorem FzT.same {H H' : Hp} {t : Addr} (h : FzT H t) (s : Same H H') : FzT H' t := by
  obtain ⟨o, u, e, c⟩ := h
  exact ⟨o, u, s _ _ e, c⟩
section
variable {X : Cx} {es : List Expr} {t : TA} {pos : Pos}
def tTupF (t : TA) : TE := fun σ H Q => t σ H fun xs H1 => xs.length ≤ sizeLine ∧ ∀ p o, H1 p = none → o.cls = .type "tuple" → o.dict = none → Q (.ref p) (upd H1 p (.frz o (.tup xs)))
theorem pe_tupF {x1} (h : PA X es t) : PE X (.Tuple es x1 pos) (tTupF t) := by
  refine ⟨fun pins s σ H Q I hq => ?_⟩
  refine wpAny_Tuple_spliced (thn (h.run pos pins s σ H _ I hq) fun us s1 ⟨xs, H1, I1, r, z, q⟩ => ⟨by rw [← r.length]; exact z, ?_⟩)
  have at1 : (s1.heap.push ({ cls := .type "tuple", data := .seq us.toArray } : Obj)).get? s1.heap.objs.size = some { cls := .type "tuple", data := .seq us.toArray } := Heap.get?_push_size _ rfl
  have I2 : Inv X pins σ (upd H1 s1.heap.objs.size (.frz { cls := .type "tuple", data := .seq us.toArray } (.tup xs))) { s1 with heap := s1.heap.push { cls := .type "tuple", data := .seq us.toArray } } :=
    I1.laid (t' := s1.toks) (fun b o e => Heap.get?_push_of_some _ e) (Nat.le_refl _) (show ObjOk X.prog X.w _ _ _ (.frz _ (.tup xs)) from ⟨at1, z, us, r, IsTup.new _ _⟩)
  exact ⟨.ref s1.heap.objs.size, _, I2, rfl, q _ _ (I1.hok.fresh (Nat.le_refl _)) rfl rfl⟩
/-- t + u: one of them, or a new one -/
def rCatF (K : PySem.W.Frag) : R2 := fun x y H Q => ∃ a b xs ys, x = .ref a ∧ y = .ref b ∧ SqT K H a xs ∧ SqT K H b ys ∧ xs.length + ys.length ≤ sizeLine ∧
  (xs = [] → Q (.ref b) H) ∧ (xs ≠ [] → ys = [] → Q (.ref a) H) ∧ (xs ≠ [] → ys ≠ [] → ∀ p o, H p = none → o.cls = .type "tuple" → o.dict = none → Q (.ref p) (upd H p (.frz o (.tup (xs ++ ys)))))
theorem op_catF : OpR X (binaryOp .Add) (rCatF X.K) := by
  intro pins s σ H x y v u Q I rx ry h
  obtain ⟨a, b, xs, ys, rfl, rfl, ha, hb, hz, q0, q1, q2⟩ := h
  cases rx
  cases ry
  obtain ⟨its, r1, p1, _⟩ := I.tuple ha
  obtain ⟨its2, r2, p2, _⟩ := I.tuple hb
  by_cases hx : xs = []
  · subst hx
    cases r1
    exact cat_tup0 p1 p2 ⟨.ref b, H, I, rfl, q0 rfl⟩
  · refine HT.cat_tup p1 p2 (fun z => hx (r1.nil_iff.mp z)) (fun z => ⟨.ref a, H, I, rfl, q1 hx (r2.nil_iff.mp z)⟩) (fun z => ?_) (by rw [← r1.length, ← r2.length]; exact hz)
    have at1 : (s.heap.push ({ cls := .type "tuple", data := .seq (its ++ its2).toArray } : Obj)).get? s.heap.objs.size = some { cls := .type "tuple", data := .seq (its ++ its2).toArray } := Heap.get?_push_size _ rfl
    have I2 : Inv X pins σ (upd H s.heap.objs.size (.frz { cls := .type "tuple", data := .seq (its ++ its2).toArray } (.tup (xs ++ ys)))) { s with heap := s.heap.push { cls := .type "tuple", data := .seq (its ++ its2).toArray } } :=
      I.laid (t' := s.toks) (fun b o e => Heap.get?_push_of_some _ e) (Nat.le_refl _) (show ObjOk X.prog X.w _ _ _ (.frz _ (.tup _)) from ⟨at1, by rw [List.length_append]; exact hz, _, r1.append r2, IsTup.new _ _⟩)
    exact ⟨.ref s.heap.objs.size, _, I2, rfl, q2 hx (fun w => z (r2.nil_iff.mpr w)) _ _ (I.hok.fresh (Nat.le_refl _)) rfl rfl⟩
end
/-! ### .index -/
def rIdxT (K : PySem.W.Frag) : V → List V → Hp → VK → Prop := fun x xs H Q => ∃ (a : Addr) (ns : List Int) (z : Int) (j : Nat), x = V.ref a ∧ xs = [.int z] ∧ SqT K H a (ns.map V.int) ∧ ns[j]? = some z ∧ (∀ m, m < j → ns[m]? ≠ some z) ∧ Q (.int (j : Nat)) H
theorem eqV_ints {a b : Int} : eqV (.int a) (.int b) = decide (a = b) := by
  show (a == b) = _
  by_cases h : a = b
  · subst h; simp
  · simp [h]
theorem flatI (ns : List Int) : (ns.map V.int).all flatV = true := by
  rw [List.all_map, List.all_eq_true]; intro n _; rfl
section
variable {X : Cx}
theorem mt_idxT : MtR X "tuple.index" (rIdxT X.K) := by
  intro pins s σ H x xs v us Q I rx rs h
  obtain ⟨p, ns, z, j, rfl, rfl, hq, hy, hno, q⟩ := h
  cases rx
  obtain ⟨u, rfl, t, rfl⟩ := vals1 rs
  obtain ⟨its, r, ⟨⟨cls, dd, dt, sl⟩, ho, hc, n, hd⟩, hz⟩ := I.tuple hq
  simp only at hc hd
  subst hc hd
  have hl := r.length
  rw [List.length_map] at hl
  have hjn := (List.getElem?_eq_some_iff.mp hy).1
  have hj : j < its.toArray.size := by rw [List.size_toArray]; omega
  have at' : ∀ (m : Nat) (hm : m < its.toArray.size), ∃ y, ns[m]? = some y ∧ eqU (.int z) its.toArray[m] = decide (y = z) := fun m hm => by
    have hm' : m < ns.length := by rw [List.size_toArray] at hm; omega
    obtain ⟨w, hw, rw'⟩ := r.get (i := m) (x := .int ns[m]) (by simp [hm'])
    refine ⟨ns[m], List.getElem?_eq_getElem hm', ?_⟩
    have e := (List.getElem?_eq_some_iff.mp hw).2
    have e2 : its.toArray[m] = w := by simpa using e
    rw [e2, eqU_of rw' rfl, eqV_ints]
  refine call_meets PySem.F.slot_tuple_index ⟨_, ho, rfl⟩ PySem.F.entry_tuple_index (PySem.F.args_tuple_index_2 _ _) (TI.tuple_indexAt p its.toArray n dd sl (.int z t) (eqU (.int z)) j hj ?_ ?_)
    ⟨ho, fun w hw => mem_eqAt (x := .int z) ⟨t, rfl⟩ rfl r (flatI ns) w (by simpa using hw), ⟨.int (j : Nat), H, I.tok _, ⟨_, rfl⟩, q⟩⟩
  · obtain ⟨y, h1, h2⟩ := at' j hj
    rw [hy] at h1; cases h1
    rw [h2, decide_eq_true rfl]
  · intro m hm hmj
    obtain ⟨y, h1, h2⟩ := at' m hm
    rw [h2, decide_eq_false]; intro e; subst e; exact hno m hmj h1
/-- x.index(n), x a list or a tuple of whole numbers -/
def tIdx (K : PySem.W.Frag) (to ta : TE) : TE := fun σ H Q => to σ H fun x H1 => ta σ H1 fun y H2 => ∃ (a : Addr) (ns : List Int) (z : Int) (j : Nat), x = .ref a ∧ y = .int z ∧ H2 = H1 ∧ (SqL K H1 a (ns.map V.int) ∨ (SqT K H1 a (ns.map V.int) ∧ FzT H1 a)) ∧ ns[j]? = some z ∧ (∀ m, m < j → ns[m]? ≠ some z) ∧ Q (.int (j : Nat)) H2
theorem pe_idx {o : Expr} {to : TE} {apos cpos p1 : Pos} {x : Str} {i : Nat} (ho : PE X o to) (hN : X.N[i]? = some x) (hv : Vis X.env.scope x)
    (hbase : attributeBase o "index" X.env (eval o X.env) = eval o X.env := by rfl)
    (hfew : ((backTo cpos (starEach [.Name x p1] X.env)).all (fun x => !x.1) && (backToKw cpos (keywordEach [] X.env)).all (fun x => x.1.isSome)
      && decide ([Expr.Name x p1].length + ([] : List Keyword).length + (if ([] : List Keyword).isEmpty then 0 else 1) < 30)) = true := by rfl)
    (hline : (apos.endLine == cpos.line) = true := by rfl) (hs : starEach [.Name x p1] X.env = (false, eval (.Name x p1) X.env) :: starEach [] X.env := by rfl) (hd : (x == ("__debug__" : Str)) = false := by decide) (hcd : (x == ("__classdict__" : Str)) = false := by decide) :
    PE X (.Call (.Attribute o "index" apos) [.Name x p1] [] cpos) (tIdx X.K to (tVar i)) := by
  refine ⟨fun pins s σ H Q I h => ?_⟩
  refine wpAny_Call_method_late hbase hfew hline rfl (thn (ho.run pins s σ H _ I (show to σ H _ from h)) fun v s1 h9 => ?_)
  obtain ⟨w, H1, I1, r1, y, hσ, a, ns, z, j, ew, ey, _, hl, h1, h2, q⟩ := h9
  subst ew ey
  obtain rfl : v = Value.ref a := r1
  have args : ∀ {id : String}, MtR X id (fun x xs H Q => x = .ref a ∧ xs = [.int z] ∧ H = H1 ∧ Q (.int (j : Nat)) H) →
      wpAny (model X.prog X.w) X.A (callWith cpos (.builtin id) [.ref a] (backTo cpos (starEach [.Name x p1] X.env)) []) (EP X pins σ Q) X.xe s1 := fun {id} hm => by
    have hA := (pa_cons (pe_var (pos := p1) (i := i) hN hv hd hcd) pa_nil).run cpos pins s1 σ H1 (fun xs G => xs = [.int z] ∧ G = H1) I1 ⟨_, hσ, rfl, rfl⟩
    rw [hs] at hA ⊢
    refine Calls.callWith_builtin rfl (Calls.evalArgs_plain ?_)
    exact thn hA fun us s2 ⟨vs, H2, I2, r2, e1, e2⟩ => by
      subst e1 e2
      exact hm pins s2 σ H2 (.ref a) _ (.ref a) us Q I2 rfl r2 ⟨rfl, rfl, rfl, q⟩
  rcases hl with hl | ⟨hl, ob, u, hp, hc, hdn⟩
  · obtain ⟨its, rv, ⟨o2, n2, ho2, hc2, hd2, he2⟩, _⟩ := I1.list hl
    refine ⟨"list", "list.index", PySem.F.plainAttrs_list, PySem.F.slot_list_index, PySem.F.type_list_index, ⟨o2, ho2, hc2⟩, fun b e => by cases e; exact ⟨o2, ho2, hd2⟩, args ?_⟩
    intro pins s σ H x xs v us Q' I rx rs ⟨e1, e2, e3, qq⟩
    subst e1 e2 e3
    refine mt_index pins s σ H _ _ v us Q' I rx rs ⟨a, _, _, j, .int z, rfl, rfl, hl, rfl, flatI ns, by rw [List.getElem?_map, h1]; rfl, by rw [eqV_ints, decide_eq_true rfl], fun m z' hm e => ?_, qq⟩
    obtain ⟨n, hn, rfl⟩ := map_at e
    rw [eqV_ints, decide_eq_false]; intro e; subst e; exact h2 m hm hn
  · have hg : s1.heap.get? a = some ob := (I1.hok a _ hp).1
    refine ⟨"tuple", "tuple.index", PySem.F.plainAttrs_tuple, PySem.F.slot_tuple_index, PySem.F.type_tuple_index, ⟨ob, hg, hc⟩, fun b e => by cases e; exact ⟨ob, hg, hdn⟩, args ?_⟩
    intro pins s σ H x xs v us Q' I rx rs ⟨e1, e2, e3, qq⟩
    subst e1 e2 e3
    exact mt_idxT pins s σ H _ _ v us Q' I rx rs ⟨a, ns, z, j, rfl, rfl, hl, h1, h2, qq⟩
end

/-! ### repr of anything that the laws hand in -/
/-- a small dict of whole numbers -/
def dctD (kvs : List (Int × Int)) : PyData := .dict (kvs.map fun p => (.int p.1, .int p.2))
/-- data, or a dict of whole numbers -/
inductive Dw (K : PySem.W.Frag) (H : Hp) : V → PyData → Prop
  | dv {v : V} {d : PyData} : Dv K H v d → Dw K H v d
  | dct {a : Addr} {kvs : List (Int × Int)} : H a = some (.dK (kvs.map fun p => (.inl p.1, .int p.2))) → Dw K H (.ref a) (dctD kvs)
section
variable {K : PySem.W.Frag} {H H' : Hp} {v : V} {d : PyData} {Q : VK}
theorem Dw.same (h : Dw K H v d) (s : Same H H') : Dw K H' v d := by
  cases h with
  | dv h => exact .dv (h.same s)
  | dct h => exact .dct (s _ _ h)
theorem Dw.seq {ds : List PyData} (h : Dw K H v d) (e : seqD d = some ds) : Dv K H v d := by
  cases h with
  | dv h => exact h
  | dct h => cases e
theorem w_isS {p : Addr} (hp : H p = some (.tup [.ty "list", .ty "tuple"])) (h : Dw K H v d) (q : Q (.bl (seqD d).isSome) H) : rIsiT K [v, .ref p] H Q := by
  cases h with
  | dv h => exact d_isS hp h q
  | dct h => exact r_isS hp (.inr (.inr ⟨_, h⟩)) (by simp [sqOf, h]; exact q)
end
end Jv

/-! ### repr of anything that a law hands in; calls of defs that want no text under way -/
namespace Jv
open PySem PySem.Spec PyProof.Rows L2
/-- the text that repr gives -/
def shownW : PyData → Str
  | .none => "None"
  | .bool b => if b then "True" else "False"
  | .int i => toString i
  | .str s => reprText s
  | d => d.shown
/-- what it asks -/
def ShowOk : PyData → Prop
  | .none => True
  | .bool _ => True
  | .int i => i.natAbs.log2 < 1920
  | .str s => (reprText s).length ≤ sizeLine
  | d => d.showable = true ∧ d.depth ≤ 60 ∧ d.shown.length ≤ sizeLine
def rReprW (K : PySem.W.Frag) : List V → Hp → VK → Prop := fun xs H Q => ∃ v d, xs = [v] ∧ Dw K H v d ∧ (∀ ds, seqD d = some ds → d.canLay0 = true) ∧ ShowOk d ∧ Q (.str (shownW d)) H
section
variable {P : Program} {w : World} {h : Heap}
theorem pairs_ints : ∀ {kvs : List (Int × Int)} {es : List DictEntry} {vs : List (Key × Value)}, KV (kvs.map fun p => (Sum.inl p.1, V.int p.2)) vs → Pairs (mixKind P w) es vs →
    ∃ as bs, ReadsAll h (es.map (·.key)) (kvs.map fun p => PyData.int p.1) as ∧ ReadsAll h (es.map (·.val)) (kvs.map fun p => PyData.int p.2) bs ∧ as = [] ∧ bs = []
  | [], es, vs, a, b => by
    cases a
    cases b
    exact ⟨[], [], .nil, .nil, rfl, rfl⟩
  | p :: kvs, es, vs, a, b => by
    cases a with
    | cons a1 a2 =>
      cases b with
      | cons k1 k2 k3 =>
        rename_i kv _ e es
        obtain ⟨as, bs, r1, r2, rfl, rfl⟩ := pairs_ints a2 k3
        obtain ⟨c1, t2, c2⟩ := a1
        have c1' : (Sum.inl p.1 : Key) = kv.1 := c1
        have kk : keyIs (Sum.inl p.1) e.key = true := by rw [c1']; exact k1
        rcases keyIs_shape kk with ⟨i, t, e1, e2⟩ | ⟨x, t, e1, _⟩
        · cases e1
          have q1 : Reads h e.key (.int p.1) [] := by rw [e2]; exact .int _ t
          have q2 : Reads h e.val (.int p.2) [] := by rw [k2, c2]; exact .int _ t2
          exact ⟨[] ++ [], [] ++ [], .cons q1 r1, .cons q2 r2, rfl, rfl⟩
        · cases e1
end
section
variable {X : Cx} {pins : List (Addr × Obj)} {σ : L2.St} {H : Hp} {s : Shared}
theorem reads_dct {a : Addr} {kvs : List (Int × Int)} (I : Inv X pins σ H s) (h : H a = some (.dK (kvs.map fun p => (.inl p.1, .int p.2)))) : ∃ as, Reads s.heap (.ref a) (dctD kvs) as ∧ sysModules ∉ as := by
  obtain ⟨_, ns, vs, kv, o, es, ep, ho, ⟨oc, _, _⟩, od, _, pr, _⟩ := I.hok a _ h
  obtain ⟨as, bs, r1, r2, rfl, rfl⟩ := pairs_ints (h := s.heap) kv pr
  refine ⟨a :: [] ++ [], .dict ho oc od ?_ ?_, fun m => ?_⟩
  · rw [List.map_map]; exact r1
  · rw [List.map_map]; exact r2
  · simp only [List.append_nil, List.mem_singleton] at m
    rw [m] at ns; simp at ns
theorem call_reprW (hg : X.A.guards = some []) (hu : X.A.units + 64 < cLine) : CallR X (.builtin "repr") (rReprW X.K) := by
  intro pins s σ H xs us Q I r h
  obtain ⟨v, d, rfl, dw, cl, so, q⟩ := h
  obtain ⟨u, rfl, ru⟩ := r.one
  have fin : ∀ {a : Addr} {as : List Addr}, u = Value.ref a → Reads s.heap (.ref a) d as → (d.hasDict = true → sysModules ∉ as) → d.showable = true ∧ d.depth ≤ 60 ∧ d.shown.length ≤ sizeLine → shownW d = d.shown → wpAny (model X.prog X.w) X.A (call (.builtin "repr") [u]) (EP X pins σ Q) X.xe s := fun {a as} e rd ns ok es => by
    subst e
    obtain ⟨c3, c2, c4⟩ := ok
    refine repr_of_reads' rd c3 ns hg (by omega) (fun _ _ e => e) (fun h' u tk k => ?_) c4
    exact ⟨.str _, H, I.kept (t' := tk) k, ⟨u, rfl⟩, by rw [es] at q; exact q⟩
  cases dw with
  | dct hd =>
    obtain ⟨as, rd, ns⟩ := reads_dct I hd
    exact fin ru rd (fun _ => ns) so rfl
  | dv hd =>
    have hd2 := hd
    cases hd2 with
    | non =>
      cases (show u = Value.none from ru)
      exact PySem.P.repr_of_none ⟨.str _, H, I.tok _, ⟨_, rfl⟩, q⟩
    | bl b =>
      cases (show u = Value.bool b from ru)
      exact PySem.P.repr_of_bool ⟨.str _, H, I.tok _, ⟨_, rfl⟩, by cases b <;> exact q⟩
    | int i =>
      obtain ⟨t, rfl⟩ := ru
      exact PySem.P.repr_of_int so ⟨.str _, H, I.tok _, ⟨_, rfl⟩, q⟩
    | str z =>
      obtain ⟨t, rfl⟩ := ru
      exact PySem.P.repr_of_str ⟨.str _, H, I.tok _, ⟨_, rfl⟩, q⟩ so
    | lst h1 h2 =>
      cases (show u = Value.ref _ from ru)
      obtain ⟨as, rd⟩ := Dp.reads I _ _ _ hd.dp rfl
      exact fin rfl rd (fun z => by rw [PyData.hasDict_of_canLay _ (cl _ rfl)] at z; cases z) so rfl
    | tup h1 h2 =>
      cases (show u = Value.ref _ from ru)
      obtain ⟨as, rd⟩ := Dp.reads I _ _ _ hd.dp rfl
      exact fin rfl rd (fun z => by rw [PyData.hasDict_of_canLay _ (cl _ rfl)] at z; cases z) so rfl
end
section
variable {X : Cx} {CX : CXT} {k : Nat} {f : Addr} {fd : FuncData} {ps : List Str} {sp : Sp} {dvs : List V} {ds : List Value} {E : XK} {x : Str} {p pos : Pos} {e : Expr} {es : List Expr} {t : TA}
theorem run_fnG {pins : List (Addr × Obj)} {σ : L2.St} {H : Hp} {s : Shared} {Q : VK} {us : List Value} {vs : List V} (F : FnG X.prog X.w X.K X.mg X.base CX k f fd ps sp) (gd : X.A.guards = some []) (hr : Room k X.A) (hb : Binds X.K fd ps ds) (hd : Vals dvs ds) (hx : Passes CX X E)
    (I : Inv X pins σ H s) (r : Vals vs us) (h : sp (vs ++ dvs) H Q E) : wpAny (model X.prog X.w) X.A (call (.ref f) us) (EP X pins σ Q) X.xe s := by
  have r2 : Vals (vs ++ dvs) (us ++ ds) := r.append hd
  have hl : (us ++ ds).length = ps.length := by rw [← r2.length]; exact F.long _ _ _ _ h
  refine wpAny_call (codeAny_mono (F.goes X.A X.stack s H ⟨us, []⟩ (us ++ ds) (vs ++ dvs) Q E gd hr I.env0 (hb s us I.kIn hl) r2 h) fun r s' hq => ?_)
  cases r with
  | error e => exact hx pins σ H s e s' I hq
  | ok fl =>
    cases fl with
    | ret u => exact I.after hq
    | next => exact False.elim hq
    | brk => exact False.elim hq
    | cont => exact False.elim hq
theorem pe_callG (F : FnG X.prog X.w X.K X.mg X.base CX k f fd ps sp) (gd : X.A.guards = some []) (hr : Room k X.A) (hg : Gl X x) (hm : X.mg x = some (.ref f)) (hk : PySem.W.keepIn X.K (.ref f) = true) (hb : Binds X.K fd ps ds) (hd : Vals dvs ds) (hx : Passes CX X E)
    (ha : PA X (e :: es) t) (hdb : (x == ("__debug__" : Str)) = false := by decide) (he : starEach (e :: es) X.env = (false, eval e X.env) :: starEach es X.env := by rfl) (hpl : (backTo pos (starEach es X.env)).any (·.1) = false := by rfl) :
    PE X (.Call (.Name x p) (e :: es) [] pos) (tCall sp dvs E t) := by
  refine ⟨fun pins s σ H Q I h => ?_⟩
  refine wpAny_Call_Name_kw (ld_glob I hg hm ?_ hdb)
  refine PySem.W.callWith_K (h₀ := X.base) I.ok.mod.kin hk (thn (ha.run pos pins s σ H _ I h) fun us s1 ⟨vs, H1, I1, r, q⟩ => ⟨I1.kIn, ?_⟩) he hpl
  exact run_fnG F gd hr hb hd hx I1 r q
end
end Jv

/-! ### sum, max, min of a tuple of whole numbers -/
namespace Jv
open PySem PySem.Spec PyProof.Rows L2
section
variable {prog : Program} {w : World} {A : Around} {E : Value → Shared → Prop} {s : Shared} {t : Addr} {xs : Array (Int × Tok)} {its : List Value} {ns : List Int}
theorem max_tupI {Q : Value → Shared → Prop} (hh : A.handled = none) (ht : s.heap.IsTuple t (intItems xs)) (hn : 0 < xs.size)
    (h : ∀ v h' tk, (intItems xs)[argBest (fun i j => decide (numAt xs i > numAt xs j)) (xs.size - 1)]? = some v → (∀ b o, s.heap.get? b = some o → h'.get? b = some o) → Q v { s with heap := h', toks := tk }) :
    wpAny (model prog w) A (call (.builtin "max") [.ref t]) Q E s := by
  obtain ⟨o, ho, hc, n, hd⟩ := id ht
  have hne : t ≠ s.heap.objs.size := Nat.ne_of_lt (Heap.lt_size ho)
  have hsz : (intItems xs).size = xs.size := by simp [intItems]
  have W := (Walks.tuple (prog := prog) (w := w) (A := A.in1) hh s.heap.objs.size t hne (intItems xs)).toS
  rw [hsz] at W
  refine call_max_walkS (wpAny_pyIter_tuple ht ?_)
  refine ⟨s.heap.objs.size, _, _, _, _, _, _, _, rfl, W, ⟨⟨_, Heap.get?_push_size _ rfl, rfl, rfl⟩, ht.at fun o e => Heap.get?_push_of_some _ e⟩, fun b hb => ?_, hn, CmpOf.ints_gt (numAt xs) (fun _ _ => intItems_at), fun v s' hP hm => ?_⟩
  · rcases List.mem_cons.mp hb with rfl | hb
    · exact Heap.lt_size (Heap.get?_push_size _ rfl)
    · obtain rfl := List.mem_singleton.mp hb
      exact Heap.lt_size (Heap.get?_push_of_some _ ho)
  · obtain ⟨h', g', d', tk', os'⟩ := s'
    have e1 : g' = s.gens := hm.gens
    have e2 : d' = s.drawn := hm.drawn
    have e3 : os' = s.os := hm.os
    subst e1 e2 e3
    exact h v h' tk' hP fun b o e => hm.heap b o (fun hb => absurd (Heap.lt_size e) ((List.mem_singleton.mp hb) ▸ Nat.lt_irrefl _)) (Heap.get?_push_of_some _ e)
theorem min_tupI {Q : Value → Shared → Prop} (hh : A.handled = none) (ht : s.heap.IsTuple t (intItems xs)) (hn : 0 < xs.size)
    (h : ∀ v h' tk, (intItems xs)[argBest (fun i j => decide (numAt xs i < numAt xs j)) (xs.size - 1)]? = some v → (∀ b o, s.heap.get? b = some o → h'.get? b = some o) → Q v { s with heap := h', toks := tk }) :
    wpAny (model prog w) A (call (.builtin "min") [.ref t]) Q E s := by
  obtain ⟨o, ho, hc, n, hd⟩ := id ht
  have hne : t ≠ s.heap.objs.size := Nat.ne_of_lt (Heap.lt_size ho)
  have hsz : (intItems xs).size = xs.size := by simp [intItems]
  have W := (Walks.tuple (prog := prog) (w := w) (A := A.in1) hh s.heap.objs.size t hne (intItems xs)).toS
  rw [hsz] at W
  refine call_min_walkS (wpAny_pyIter_tuple ht ?_)
  refine ⟨s.heap.objs.size, _, _, _, _, _, _, _, rfl, W, ⟨⟨_, Heap.get?_push_size _ rfl, rfl, rfl⟩, ht.at fun o e => Heap.get?_push_of_some _ e⟩, fun b hb => ?_, hn, CmpOf.ints_lt (numAt xs) (fun _ _ => intItems_at), fun v s' hP hm => ?_⟩
  · rcases List.mem_cons.mp hb with rfl | hb
    · exact Heap.lt_size (Heap.get?_push_size _ rfl)
    · obtain rfl := List.mem_singleton.mp hb
      exact Heap.lt_size (Heap.get?_push_of_some _ ho)
  · obtain ⟨h', g', d', tk', os'⟩ := s'
    have e1 : g' = s.gens := hm.gens
    have e2 : d' = s.drawn := hm.drawn
    have e3 : os' = s.os := hm.os
    subst e1 e2 e3
    exact h v h' tk' hP fun b o e => hm.heap b o (fun hb => absurd (Heap.lt_size e) ((List.mem_singleton.mp hb) ▸ Nat.lt_irrefl _)) (Heap.get?_push_of_some _ e)
theorem max_tup {Q : Value → Shared → Prop} (hh : A.handled = none) (hl : s.heap.IsTuple t its.toArray) (hi : IntsAre its ns) (hne : 0 < ns.length)
    (h : ∀ h' tk M t', (∀ b o, s.heap.get? b = some o → h'.get? b = some o) → M ∈ ns → (∀ a, a ∈ ns → a ≤ M) → Q (.int M t') { s with heap := h', toks := tk }) : wpAny (model prog w) A (call (.builtin "max") [.ref t]) Q E s := by
  obtain ⟨xs, e⟩ := hi.allInts.items
  have hn : numsOf (intItems xs).toList = ns := by rw [← e]; exact hi.numsOf
  rw [nums_intItems] at hn
  subst hn
  rw [e] at hl
  have hsz : 0 < xs.size := by simpa using hne
  refine max_tupI hh hl hsz fun v h' tk hv hk => ?_
  obtain ⟨t, rfl⟩ := intItems_at hv
  obtain ⟨h1, h2⟩ := argBest_gt (numAt xs) (xs.size - 1)
  refine h h' tk _ t hk ?_ fun a ha => ?_
  · rw [numAt_eq]; exact PySem.getD_mem (by rw [List.length_map, Array.length_toList]; omega)
  · obtain ⟨j, hj, rfl⟩ := mem_getD ha
    rw [List.length_map, Array.length_toList] at hj
    rw [← numAt_eq]
    exact h2 j (by omega)
theorem min_tup {Q : Value → Shared → Prop} (hh : A.handled = none) (hl : s.heap.IsTuple t its.toArray) (hi : IntsAre its ns) (hne : 0 < ns.length)
    (h : ∀ h' tk M t', (∀ b o, s.heap.get? b = some o → h'.get? b = some o) → M ∈ ns → (∀ a, a ∈ ns → M ≤ a) → Q (.int M t') { s with heap := h', toks := tk }) : wpAny (model prog w) A (call (.builtin "min") [.ref t]) Q E s := by
  obtain ⟨xs, e⟩ := hi.allInts.items
  have hn : numsOf (intItems xs).toList = ns := by rw [← e]; exact hi.numsOf
  rw [nums_intItems] at hn
  subst hn
  rw [e] at hl
  have hsz : 0 < xs.size := by simpa using hne
  refine min_tupI hh hl hsz fun v h' tk hv hk => ?_
  obtain ⟨t, rfl⟩ := intItems_at hv
  obtain ⟨h1, h2⟩ := argBest_lt (numAt xs) (xs.size - 1)
  refine h h' tk _ t hk ?_ fun a ha => ?_
  · rw [numAt_eq]; exact PySem.getD_mem (by rw [List.length_map, Array.length_toList]; omega)
  · obtain ⟨j, hj, rfl⟩ := mem_getD ha
    rw [List.length_map, Array.length_toList] at hj
    rw [← numAt_eq]
    exact h2 j (by omega)
theorem sum_tup {Q : Value → Shared → Prop} (hh : A.handled = none) (hl : s.heap.IsTuple t its.toArray) (hi : IntsAre its ns)
    (h : ∀ h' tk t', (∀ b o, s.heap.get? b = some o → h'.get? b = some o) → Q (.int ns.sum t') { s with heap := h', toks := tk }) : wpAny (model prog w) A (call (.builtin "sum") [.ref t]) Q E s := by
  obtain ⟨xs, e⟩ := hi.allInts.items
  have hn : numsOf (intItems xs).toList = ns := by rw [← e]; exact hi.numsOf
  rw [nums_intItems] at hn
  rw [e] at hl
  refine PySem.W.ktm_sumG hh hl fun h' tk t' hk => ?_
  have := h h' tk t' hk
  rw [preSum_eq, List.take_of_length_le (by simp), hn]; exact this
end
section
variable {X : Cx}
/-- sum, max, min of a list or a tuple of whole numbers -/
def rSumA (K : PySem.W.Frag) : List V → Hp → VK → Prop := fun vs H Q => ∃ (x : V) (ns : List Int), vs = [x] ∧ Sk K H x (ns.map V.int) ∧ Q (.int ns.sum) H
def rMaxA (K : PySem.W.Frag) : List V → Hp → VK → Prop := fun vs H Q => ∃ (x : V) (ns : List Int), vs = [x] ∧ Sk K H x (ns.map V.int) ∧ 0 < ns.length ∧ ∀ m, m ∈ ns → (∀ y, y ∈ ns → y ≤ m) → Q (.int m) H
def rMinA (K : PySem.W.Frag) : List V → Hp → VK → Prop := fun vs H Q => ∃ (x : V) (ns : List Int), vs = [x] ∧ Sk K H x (ns.map V.int) ∧ 0 < ns.length ∧ ∀ m, m ∈ ns → (∀ y, y ∈ ns → m ≤ y) → Q (.int m) H
theorem cr_sumA (hc : X.calm = true) : CallR X (.builtin "sum") (rSumA X.K) := by
  intro pins s σ H vs us Q I r h
  obtain ⟨x, ns, rfl, ⟨a, rfl, hs | hs⟩, q⟩ := h
  · exact cr_sum hc pins s σ H _ us Q I r ⟨a, ns, rfl, hs, q⟩
  · obtain ⟨its, rv, hl, _⟩ := I.tuple hs
    rw [Vals.ref1 r]
    exact sum_tup (I.ok.hd hc) hl rv.ints fun h' tk t' hk => ⟨.int _, H, I.kept hk, ⟨_, rfl⟩, q⟩
theorem cr_maxA (hc : X.calm = true) : CallR X (.builtin "max") (rMaxA X.K) := by
  intro pins s σ H vs us Q I r h
  obtain ⟨x, ns, rfl, ⟨a, rfl, hs | hs⟩, hne, q⟩ := h
  · exact cr_max hc pins s σ H _ us Q I r ⟨a, ns, rfl, hs, hne, q⟩
  · obtain ⟨its, rv, hl, _⟩ := I.tuple hs
    rw [Vals.ref1 r]
    exact max_tup (I.ok.hd hc) hl rv.ints hne fun h' tk m t' hk h1 h2 => ⟨.int _, H, I.kept hk, ⟨_, rfl⟩, q m h1 h2⟩
theorem cr_minA (hc : X.calm = true) : CallR X (.builtin "min") (rMinA X.K) := by
  intro pins s σ H vs us Q I r h
  obtain ⟨x, ns, rfl, ⟨a, rfl, hs | hs⟩, hne, q⟩ := h
  · exact cr_min hc pins s σ H _ us Q I r ⟨a, ns, rfl, hs, hne, q⟩
  · obtain ⟨its, rv, hl, _⟩ := I.tuple hs
    rw [Vals.ref1 r]
    exact min_tup (I.ok.hd hc) hl rv.ints hne fun h' tk m t' hk h1 h2 => ⟨.int _, H, I.kept hk, ⟨_, rfl⟩, q m h1 h2⟩
end
end Jv

/-! ### keyword-only parameters -/
namespace Jv
open PySem PySem.Spec PyProof.Rows L2
section
variable {K : PySem.W.Frag} {fd : FuncData} {ps : List Str} {D : Addr}
theorem bindsK (ms : List (Str × Value)) (hms : ∀ q ∈ ms, PySem.W.nsIn K D q.1 = some (some q.2)) {ds : List Value} {m : Nat} (hm : m + ds.length = ps.length)
    (h : ∀ us : List Value, us.length = m → KwChain D ms (bindArgs fd ⟨us, []⟩) (ps.zip (us ++ ds))) : Binds K fd ps ds := fun s us X hl =>
  BindsTo.of_looks fun M => KwChain.looks X hms (h us (by rw [List.length_append] at hl; omega))
theorem kbK (ms : List (Str × Value)) (hms : ∀ q ∈ ms, PySem.W.nsIn K D q.1 = some (some q.2)) {m : Nat} {ks : List Str} {g : List Value → List Value → List Value} {gV : List V → List V → List V}
    (h : ∀ us ws : List Value, us.length = m → ws.length = ks.length → KwChain D ms (bindArgs fd ⟨us, ks.zip ws⟩) (ps.zip (g us ws)))
    (rel : ∀ {vs : List V} {us : List Value} {zs : List V} {ws : List Value}, Vals vs us → Vals zs ws → Vals (gV vs zs) (g us ws)) : KBn K fd ps m ks g gV :=
  ⟨fun s us ws X h1 h2 => BindsTo.of_looks fun M => KwChain.looks X hms (h us ws h1 h2), rel⟩
theorem vals_getD : ∀ {zs : List V} {ws : List Value}, Vals zs ws → ∀ i, RelV (zs.getD i .non) (ws.getD i .none)
  | _, _, .nil, i => by rw [List.getD_nil, List.getD_nil]; exact rfl
  | _, _, .cons h _, 0 => h
  | _, _, .cons _ t, i + 1 => vals_getD t i
theorem hms0 : ∀ q ∈ ([] : List (Str × Value)), PySem.W.nsIn K D q.1 = some (some q.2) := fun q h => by cases h
theorem hmsC {x : Str} {u : Value} {ms : List (Str × Value)} (h : PySem.W.nsIn K D x = some (some u)) (t : ∀ q ∈ ms, PySem.W.nsIn K D q.1 = some (some q.2)) : ∀ q ∈ (x, u) :: ms, PySem.W.nsIn K D q.1 = some (some q.2) := fun q hq => by
  rcases List.mem_cons.mp hq with e | hq
  · rw [e]; exact h
  · exact t q hq
end
section
variable {X : Cx} {CX : CXT} {k n : Nat} {f : Addr} {fd : FuncData} {ps ks : List Str} {sp : Sp} {E : L2.St → XK} {x : Str} {p pos : Pos} {e : Expr} {es : List Expr} {kws : List Keyword} {t tk : TA} {g : List Value → List Value → List Value} {gV : List V → List V → List V}
def tCallNS (n m : Nat) (sp : Sp) (gV : List V → List V → List V) (E : L2.St → XK) (t tk : TA) : TE := fun σ H Q => t σ H fun vs H1 => tk σ H1 fun zs H2 => vs.length = n ∧ zs.length = m ∧ sp (gV vs zs) H2 Q (E σ)
theorem r_callNS {n m : Nat} {σ : L2.St} {H : Hp} {Q : VK} (h : t σ H fun vs H1 => tk σ H1 fun zs H2 => vs.length = n ∧ zs.length = m ∧ sp (gV vs zs) H2 Q (E σ)) : tCallNS n m sp gV E t tk σ H Q := h
theorem run_fnNX {pins : List (Addr × Obj)} {σ : L2.St} {H : Hp} {s : Shared} {Q : VK} {us ws : List Value} {vs zs : List V} {E : XK} (F : FnOk X.prog X.w X.K X.mg X.base CX k f fd ps sp) (hr : Room k X.A) (hb : KBn X.K fd ps n ks g gV) (hx : PassesAt CX X σ E)
    (I : Inv X pins σ H s) (r : Vals vs us) (rz : Vals zs ws) (l1 : vs.length = n) (l2 : zs.length = ks.length) (h : sp (gV vs zs) H Q E) : wpAny (model X.prog X.w) X.A (call (.ref f) us (ks.zip ws)) (EP X pins σ Q) X.xe s := by
  have r2 := hb.rel r rz
  refine wpAny_call (codeAny_mono (F.run X.A X.stack s H ⟨us, ks.zip ws⟩ (g us ws) (gV vs zs) Q E hr I.env0 (hb.to s us ws I.kIn (r.length.symm.trans l1) (rz.length.symm.trans l2)) r2 h) fun r s' hq => ?_)
  cases r with
  | error e => exact hx pins H s e s' I hq
  | ok fl =>
    cases fl with
    | ret u => exact I.after hq
    | next => exact False.elim hq
    | brk => exact False.elim hq
    | cont => exact False.elim hq
theorem pe_callNS (F : FnOk X.prog X.w X.K X.mg X.base CX k f fd ps sp) (hr : Room k X.A) (hg : Gl X x) (hm : X.mg x = some (.ref f)) (hk : PySem.W.keepIn X.K (.ref f) = true) (hb : KBn X.K fd ps n ks g gV) (hx : ∀ σ, PassesAt CX X σ (E σ))
    (ha : PA X (e :: es) t) (hkw : PK X kws tk) (hall : (backToKw pos (keywordEach kws X.env)).all (·.1.isSome) = true := by rfl) (hks : (backToKw pos (keywordEach kws X.env)).filterMap (·.1) = ks := by rfl)
    (hdb : (x == ("__debug__" : Str)) = false := by decide) (he : starEach (e :: es) X.env = (false, eval e X.env) :: starEach es X.env := by rfl)
    (hpl : ((backTo pos (starEach (e :: es) X.env)).any (·.1) || (backToKw pos (keywordEach kws X.env)).any (·.1.isNone)) = false := by rfl) :
    PE X (.Call (.Name x p) (e :: es) kws pos) (tCallNS n ks.length sp gV E t tk) := by
  refine ⟨fun pins s σ H Q I h => ?_⟩
  refine wpAny_Call_Name_kw (ld_glob I hg hm ?_ hdb)
  refine PySem.W.callWith_KW (h₀ := X.base) I.ok.mod.kin hk hall (thn (ha.run pos pins s σ H _ I h) fun us s1 ⟨vs, H1, I1, r, q⟩ => ?_) hpl he
  refine thn (hkw.run pos pins s1 σ H1 _ I1 q) fun ws s2 ⟨zs, H2, I2, rz, l1, l2, q2⟩ => ⟨I2.kIn, ?_⟩
  rw [hks]
  exact run_fnNX F hr hb (hx σ) I2 r rz l1 l2 q2
end
end Jv

/-! ### the end of a law whose def makes lambdas and asks for the text of a container -/
namespace Jv
open PySem PySem.Spec PyProof.Rows L2
/-- a def whose code object is known, where no text of a container is under way -/
theorem fun_okCG {P : Program} {w : World} {K : PySem.W.Frag} {mg : Str → Option Value} {base : Heap} {x qual : Str} {st : Stmt} {f : Addr} {fd : FuncData} {N ps : List Str} {k : Nat} {sp : Sp} {oc kV doc pm cdv ct : Value} {od an : Option Addr} {osl : Array (Option Value)}
    (ed : fd = PySem.W.fnOf x qual (defArgs st) (defBody st) (defScope st) .none kV doc pm an cdv ct) (here : K.lookup f = some ⟨oc, od, .func fd, osl⟩) (rec : PySem.W.codeIn K cdv qual = true) (S : FnScope N ps (defScope st)) (hl : ∀ vs H Q E, sp vs H Q E → vs.length = ps.length)
    (body : ∀ (A : Around) (outer : List Env) (s : Shared) (H : Hp) (vs : List V) (Q : VK) (E : XK), A.guards = some [] → Room k (A.deeper (envOfC qual (defScope st) s.heap.objs.size f cdv)) → sp vs H Q E →
      ∃ t, PSs (cxOf CX0 P w K mg base N qual (defScope st) f cdv A outer s H E).nox (defBody st) t ∧ t { nx := fun _ H' => Q .non H', rt := Q } (start N vs) H) : FnG P w K mg base CX0 (k + 1) f fd ps sp := by
  subst ed
  refine ⟨hl, fun A outer s H args us vs Q E gd room e0 bd rv hs => ?_⟩
  have up : ∀ b o, base.get? b = some o → s.heap.get? b = some o := fun b o q => (e0.bs b o q).1
  have kin : K.In s.heap := e0.mod.kin.keeps up
  refine codeAny_call_function room.depth (kin _ _ here) rfl S.co S.gen rfl (PySem.W.codeRec_of kin rec) (bd _ _ _ _ ?_)
  refine wpAny_newFunctionEnv_cells S.kind (fun y hy => ?_) fun env he s1 inC => ?_
  · rcases S.par y.1 (List.of_mem_zip (show (y.1, y.2) ∈ _ from hy)).1 with q | q
    · exact Or.inl q
    · exact Or.inr ⟨q, PySem.W.cellsFrom_some _ _ _ (Or.inl q)⟩
  cases he
  refine ⟨(e0.mod.nolimit.keeps up).keeps inC.toInCall.keep, codeAny_func ?_⟩
  obtain ⟨t, pt, q⟩ := body A outer s H vs Q E gd (room.deeper _) hs
  refine wpAny_mono (pt.nox.run [] s1 _ H _ (inv_start S room.hd e0 (hl _ _ _ _ hs) rv inC) q) (fun fl s' z => ?_) fun _ _ z => z
  have done : ∀ (σ' : L2.St) (H' : Hp) (v : V) (u : Value), Inv (cxOf CX0 P w K mg base N qual (defScope st) f cdv A outer s H E) [] σ' H' s' → RelV v u → Q v H' → CE outer P w H s Q u s' :=
    fun σ' H' v u J r q => ⟨v, H', J.os, J.bare, J.base, J.hok, r, q⟩
  cases fl
  case ret u => exact let ⟨v, σ', H', J, r, q⟩ := z; done σ' H' v u J r q
  case next => exact let ⟨σ', H', J, q⟩ := z; done σ' H' .non .none J rfl q
  case brk => exact let ⟨_, _, _, q⟩ := z; (q : False).elim
  case cont => exact let ⟨_, _, _, q⟩ := z; (q : False).elim
section
variable {P : Program} {w : World} {K : PySem.W.Frag} {mg mb : Str → Option Value} {CX : CXT} {k : Nat} {fa a c Pt bm : Addr} {fd : FuncData} {x : Str} {sp : Sp} {z : Shared} {vs : List Value} {ns : List Int} {ob : Obj}
theorem lawGT (kin : K.In z.heap) (gl : z.heap.Ns mainGlobals mg) (bi : z.heap.Ns builtinsNs mb) (bb : ∀ y : Str, y ≠ "__name__" → mb y = bootBuiltins y) (nl : z.heap.NoLimit) (gn : z.gens = #[])
    (eT : z.heap.get? Pt = some { cls := .none, data := .fields #[] }) (nT : K.lookup Pt = none) (hd : PySem.W.CodeHd z.heap c Pt) (b1 : mg "__builtins__" = some (.ref bm)) (b2 : bm ≠ builtinsNs) (b3 : z.heap.get? bm = some ob) (b4 : ob.cls = .type "module") (b5 : ob.dict = some builtinsNs) (b6 : ob.data = .plain)
    (ea : z.heap.get? a = some { cls := .type "list", data := .seq vs.toArray }) (hi : IntsAre vs ns) (few : ns.length ≤ sizeLine) (room : Room k callerA)
    (F : ∀ base : Heap, K.In base → base.Ns mainGlobals mg → LamX.TabB base mg c Pt → FnG P w K mg base CX k fa fd [x] sp) (bd : ∀ (s : Shared) (u : Value), BindsTo s fd ⟨[u], []⟩ [(x, u)])
    (says : ∀ H : Hp, H Pt = some (.tbl #[]) → SqL K H a (ns.map V.int) → sp [.ref a] H (fun v _ => v = .bl true) fun _ _ _ => False) (quiet : ∀ H e s', CX [] H z (fun _ _ _ => False) e s' → False) :
    codeAny (model P w) callerA (.call (.ref fa) ⟨[.ref a], []⟩) (fun r s' => r = .ok (.ret (.bool true)) ∧ OldK z.heap s'.heap ∧ s'.os = z.os ∧ AllBare s'.gens) z := by
  have nPa : a ≠ Pt := fun e => by
    rw [e, eT] at ea
    cases ea
  have run1 : ∀ H : Hp, H Pt = some (.tbl #[]) → (∀ b, b ≠ Pt → H b = none ∨ ∃ o xs, H b = some (.frz o (.lst xs))) → (∀ b, ¬ H b = none → (b = a ∧ K.lookup a = none) ∨ b = Pt) → SqL K H a (ns.map V.int) → HOk P w H z.heap →
      codeAny (model P w) callerA (.call (.ref fa) ⟨[.ref a], []⟩) (fun r s' => r = .ok (.ret (.bool true)) ∧ OldK z.heap s'.heap ∧ s'.os = z.os ∧ AllBare s'.gens) z := fun H hT only tr sq ok => by
    have free : ∀ {b : Addr} {o : Obj}, z.heap.get? b = some o → (∀ xs m, ¬ o.data = .seq xs m) → ¬ o.data = .fields #[] → H b = none := fun {b o} e s1 s2 =>
      Classical.byContradiction fun t => by
        rcases tr b t with ⟨rfl, _⟩ | rfl
        · rw [ea] at e
          cases e
          exact s1 _ _ rfl
        · rw [eT] at e
          cases e
          exact s2 rfl
    have dictOff : ∀ {b : Addr} {o : Obj} {es : Array DictEntry} {n : Nat}, z.heap.get? b = some o → o.data = .dict es n → H b = none := fun e d => free e (fun _ _ q => by rw [d] at q; cases q) fun q => by rw [d] at q; cases q
    have spaces : ∀ {b : Addr} {m : Str → Option Value}, z.heap.Ns b m → (hidT z.heap H).Ns b m := fun q => by
      obtain ⟨o, es, n, e, d, r⟩ := q
      exact ⟨o, es, n, hidT_get e (dictOff e d), d, r⟩
    have own : K.In (hidT z.heap H) := fun b o q => hidT_get (kin b o q) (Classical.byContradiction fun t => by
      rcases tr b t with ⟨rfl, n⟩ | rfl
      · rw [n] at q
        cases q
      · rw [nT] at q
        cases q)
    have table : LamX.TabB (hidT z.heap H) mg c Pt := by
      have gne : mainGlobals ≠ Pt := fun q => by
        obtain ⟨_, _, _, e, d, _⟩ := gl
        rw [q, eT] at e
        cases e
        cases d
      have bne : bm ≠ mainGlobals := fun q => by
        obtain ⟨_, _, _, e, d, _⟩ := gl
        rw [q, e] at b3
        cases b3
        rw [d] at b6
        cases b6
      have pne : bm ≠ Pt := fun q => by
        rw [q, eT] at b3
        cases b3
        cases b6
      have hb := free b3 (fun _ _ q => by rw [b6] at q; cases q) fun q => by rw [b6] at q; cases q
      refine ⟨?_, ⟨bm, ob, b1, b2, bne, pne, hidT_get b3 hb, b4, b5, b6⟩, gne⟩
      obtain ⟨oc, ws, l1, l2, l3, l4, l5, l6, l7, at1, at2, at3, at4, at5, at6, at7, at8, at9, far⟩ := hd
      refine ⟨oc, ws, l1, l2, l3, l4, l5, l6, l7, hidT_get at1 (free at1 (fun _ _ q => by rw [at3] at q; cases q) fun q => ?_), at2, at3, at4, at5, at6, at7, at8, at9, far⟩
      rw [at3] at q
      cases q
      simp at at4
    obtain ⟨ml, l1, l2⟩ := nl
    have start : Env0 P w K mg (hidT z.heap H) callerA [] z H :=
      { frames := rfl, mod := ⟨own, spaces gl, ⟨mb, spaces bi, bb⟩, ml, spaces l1, l2⟩, bs := fun _ _ q => of_hidT q, bsz := Nat.le_of_eq (hidT_size _ _), funs := trivial,
        frf := fun b q => (List.not_mem_nil q).elim, hok := ok, bare := .of_eq gn }
    refine codeAny_mono ((F _ own (spaces gl) table).goes callerA [] z H ⟨[.ref a], []⟩ [.ref a] [.ref a] _ _ rfl room start (bd z (.ref a)) (.cons rfl .nil) (says H hT sq)) fun r s' q => ?_
    match r, q with
    | .error e, q => exact (quiet H e s' q).elim
    | .ok .next, q => exact False.elim q
    | .ok .brk, q => exact False.elim q
    | .ok .cont, q => exact False.elim q
    | .ok (.ret u), q =>
      obtain ⟨v, H', os, bare, un, ok', rv, (rfl : v = .bl true)⟩ := q
      obtain rfl : u = Value.bool true := rv
      have stays : ∀ b o, b ≠ Pt → z.heap.get? b = some o → s'.heap.get? b = some o := fun b o nb e => by
        rcases only b nb with n | ⟨of_, xs, t⟩
        · exact un.keep b o e n (fun m => (List.not_mem_nil m).elim) List.not_mem_nil
        · obtain ⟨h1, _⟩ := ok b _ t
          obtain ⟨h2, _⟩ := ok' b _ (un.frzs b of_ _ t)
          rw [e] at h1
          cases h1
          exact h2
      obtain ⟨more, grew⟩ := un.tbls Pt #[] hT
      have now := ok' Pt _ grew
      refine ⟨rfl, ⟨fun b o e => ?_, fun b o e => ?_⟩, os, bare⟩
      · by_cases eb : b = Pt
        · subst eb
          rw [eT] at e
          cases e
          refine .inr (.inl ⟨(hd.tab eT).isCodeTable, rfl, #[], more, rfl, ?_⟩)
          rw [Array.empty_append]
          exact Array.empty_append (xs := more) ▸ now
        · exact .inl (stays b o eb e)
      · by_cases eb : b = Pt
        · rw [eb]
          exact ⟨_, now⟩
        · exact ⟨o, stays b o eb e⟩
  have rv := vals_ints hi
  have nv := hi.length
  by_cases hk : K.lookup a = none
  · obtain ⟨S, hS⟩ : ∃ S : Hp, S = fun b => if b = a then some (HO.frz { cls := .type "list", data := .seq vs.toArray } (.lst (ns.map V.int))) else if b = Pt then some (HO.tbl #[]) else none := ⟨_, rfl⟩
    have seen : S a = some (.frz { cls := .type "list", data := .seq vs.toArray } (.lst (ns.map V.int))) := by rw [hS]; exact if_pos rfl
    have tabS : S Pt = some (.tbl #[]) := by rw [hS]; exact (if_neg (Ne.symm nPa)).trans (if_pos rfl)
    have other : ∀ b, b ≠ a → b ≠ Pt → S b = none := fun b e e2 => by rw [hS]; exact (if_neg e).trans (if_neg e2)
    clear hS
    refine run1 S tabS (fun b nb => ?_) (fun b t => ?_) (.inl (.inr ⟨_, seen⟩)) (fun b u t => ?_)
    · by_cases e : b = a
      · exact .inr ⟨_, _, by rw [e]; exact seen⟩
      · exact .inl (other b e nb)
    · by_cases e : b = a
      · exact .inl ⟨e, hk⟩
      · exact .inr (Classical.byContradiction fun e2 => t (other b e e2))
    · by_cases e : b = a
      · subst e
        rw [seen] at t
        cases t
        exact ⟨ea, by rw [List.length_map]; exact few, vs, _, rv, ea⟩
      · by_cases e2 : b = Pt
        · subst e2
          rw [tabS] at t
          cases t
          exact eT
        · exact nomatch (other b e e2).symm.trans t
  · obtain ⟨o, q⟩ := Option.ne_none_iff_exists'.mp hk
    have e := kin a o q
    rw [ea] at e
    cases e
    refine run1 (fun b => if b = Pt then some (.tbl #[]) else none) (if_pos rfl) (fun b nb => .inl (if_neg nb)) (fun b t => .inr (Classical.byContradiction fun nb => t (if_neg nb)))
      (.inr ⟨_, vs.toArray, _, q, rfl, rfl, rfl, by rw [List.size_toArray, nv]; exact few, by simpa using rv⟩) fun b u t => ?_
    by_cases eb : b = Pt
    · subst eb
      have t' := (if_pos rfl).symm.trans t
      cases t'
      exact eT
    · exact nomatch (if_neg eb).symm.trans t
end
/-- what is known of the law's promise at the head's heap (one table) -/
def LawGT (l : PySem.W.OpenLaw) (w : World) (K : PySem.W.Frag) (k n : Nat) (x : Str) (mg : Str → Option Value) (fa : Addr) (h : Heap) : Prop :=
  ∃ (fd : FuncData) (c Pt : Addr) (sp : Sp), h.get? Pt = some { cls := .none, data := .fields #[] } ∧ K.lookup Pt = none ∧ PySem.W.CodeHd h c Pt ∧ (∀ (s : Shared) (v : Value), BindsTo s fd ⟨[v], []⟩ [(x, v)]) ∧
    (∀ (H : Hp) (a : Addr) (ns : List Int), ns.length ≤ n → H Pt = some (.tbl #[]) → SqL K H a (ns.map V.int) → sp [.ref a] H (fun v _ => v = .bl true) fun _ _ _ => False) ∧
    ∀ base : Heap, K.In base → base.Ns mainGlobals mg → LamX.TabB base mg c Pt → FnG l.prog w K mg base CX0 k fa fd [x] sp
theorem walkGT {l : PySem.W.OpenLaw} {n k : Nat} {q : Program} {loose : List Str} {XP : (Str → Option Value) → Heap → Prop} {YP : World → Heap → Prop} {d : DefRec} {K : Params → PySem.W.Frag} {x : Str}
    (h1 : l.most = some n) (h2 : n ≤ sizeLine) (h3 : d.params.defaults = []) (h4 : Room k callerA) (hrec : ((recsOf q).any fun e => e.name == d.name) = true) (h5 : ∀ (w : World) (h : Heap), YP w h → (K w.params).In h)
    (F : ∀ (w : World) (mg : Str → Option Value) (fa : Addr) (h : Heap), YP w h → (K w.params).In h → h.Ns mainGlobals mg → mg d.name = some (.ref fa) → LamX.OwnTab (K w.params) fa h → LawGT l w (K w.params) k n x mg fa h)
    (quiet : ∀ (w : World) (H : Hp) (s : Shared) (e : Value) (s' : Shared), CX0 [] H s (fun _ _ _ => False) e s' → False) :
    PySem.W.WalkO q loose XP YP l.row.toRowW d [] (fun f vs => PySem.call f vs) :=
  Att.attach_call h1 h3 fun w s₀ s₁ mg mb fa o pm cd doc a vs ns G Y ho hd hcd hmg hobj hints hlen hg => by
    have kin := h5 w _ Y
    have ot : LamX.OwnTab (K w.params) fa s₁.heap := fun c0 P0 of_ f0 u0 dd ws sl j1 j2 j3 j4 j5 => by
      obtain ⟨dl, hm, same⟩ := List.any_eq_true.mp hrec
      obtain ⟨a', o', f', c', P', g1, g2, g3, g4, g5, g6⟩ := G.T.tab dl hm
      rw [beq_iff_eq.mp same, hmg] at g1
      cases g1
      rw [kin _ _ j1] at g2
      cases g2
      rw [j2] at g3
      cases g3
      rw [j3] at g4
      cases g4
      obtain ⟨⟨oc, vc, m1, _, m3, m4⟩, there⟩ := g6
      rw [kin _ _ j4] at m1
      cases m1
      cases m3
      rw [j5] at m4
      cases m4
      exact there
    obtain ⟨fd, c, Pt, sp, t1, t2, t3, t4, t5, t6⟩ := F w mg fa _ Y kin G.T.g hmg ot
    obtain ⟨bm, ob, b1, b2, b3, b4, b5, b6⟩ := G.T.bmain
    exact lawGT kin G.T.g G.T.b G.T.builtins G.T.nolimit hg t1 t2 t3 b1 b2 b3 b4 b5 b6 hobj hints (Nat.le_trans hlen h2) h4 t6 t4 (fun H e sq => t5 H a ns hlen e sq) fun H e s' => quiet w H s₁ e s'
end Jv

/-! ### the walk through a reading -/
local macro_rules | `(tactic| walk_at "r1") => `(tactic| first
  | with_reducible refine Jv.r_seq ?_
  | with_reducible refine Jv.r_asg ?_
  | with_reducible refine Jv.r_gn ?_
  | with_reducible refine Jv.r_ret ?_
  | with_reducible refine Jv.r_retN ?_
  | with_reducible refine Jv.r_drop ?_
  | with_reducible refine Jv.r_if ?_
  | with_reducible refine Jv.r_next ?_
  | with_reducible refine Jv.r_brk ?_
  | with_reducible refine Jv.r_cont ?_
  | ((with_reducible refine' Jv.r_var ?hv ?_); (case hv => rfl))
  | with_reducible refine Jv.r_c ?_
  | with_reducible refine Jv.r_op ?_
  | with_reducible refine Jv.r_un ?_
  | with_reducible refine Jv.r_I0 ?_
  | with_reducible refine Jv.r_U ?_
  | ((with_reducible refine Jv.r_eq ?hs ?_); (case hs => rfl))
  | ((with_reducible refine Jv.r_ne ?hs ?_); (case hs => rfl))
  | with_reducible refine Jv.r_test ?_
  | with_reducible refine Jv.r_B ?_
  | with_reducible refine Jv.r_bl ?_
  | with_reducible refine Jv.r_and ?_
  | with_reducible refine Jv.r_or ?_
  | with_reducible refine Jv.r_not ?_
  | with_reducible refine Jv.r_andV ?_
  | with_reducible refine Jv.r_orV ?_
  | with_reducible refine Jv.r_notV ?_
  | with_reducible refine Jv.r_ife ?_
  | with_reducible refine Jv.r_chain ?_
  | with_reducible refine Jv.r_nil ?_
  | with_reducible refine Jv.r_cons ?_
  | with_reducible refine Jv.r_tup ?_
  | with_reducible refine Jv.r_lst ?_
  | with_reducible refine Jv.r_CB ?_
  | with_reducible refine Jv.r_call ?_
  | with_reducible refine Jv.r_callS ?_
  | with_reducible refine Jv.r_for ?_
  | with_reducible refine Jv.r_iR1 ?_
  | with_reducible refine Jv.r_iR2 ?_
  | with_reducible refine Jv.r_sub ?_
  | with_reducible refine Jv.r_int ?_)
local macro_rules | `(tactic| walk_at "r") => `(tactic| (repeat walk_at "r1"))

local macro_rules | `(tactic| walk_at "cond") => `(tactic| first
  | exact Or.inr ⟨by decide, by decide⟩
  | exact Or.inl ⟨by decide, by decide⟩
  | exact ⟨by decide, by decide⟩
  | exact ⟨by assumption, by assumption⟩
  | exact ⟨by decide, by decide, by decide⟩
  | (show (0 : Int) < _; first | decide | omega)
  | exact Jv.cdivS (by omega) (by omega)
  | exact Or.inr ⟨by omega, by omega⟩
  | exact Or.inl ⟨by omega, by omega⟩)
local macro_rules | `(tactic| walk_at "r1") => `(tactic| ((with_reducible refine Jv.r_I ?hc ?_); (case hc => walk_at "cond")))

local macro_rules | `(tactic| walk_at "ne") => `(tactic| first
  | assumption
  | exact Ne.symm (by assumption)
  | exact L2.ne_of_none (by walk_at "hp") (by assumption)
  | exact Ne.symm (L2.ne_of_none (by walk_at "hp") (by assumption)))
local macro_rules | `(tactic| walk_at "hp") => `(tactic| first
  | assumption
  | exact L2.upd_same
  | ((refine' Jv.kp ?hp1 ?hp2); (case hp2 => assumption); (case hp1 => walk_at "hp"))
  | ((refine' Jv.kpO ?hp1 ?hp2); (case hp1 => walk_at "hp"); (case hp2 => walk_at "ne")))
local macro_rules | `(tactic| walk_at "sq") => `(tactic| first
  | assumption
  | ((refine' Jv.sqT_at ?sq1); (case sq1 => walk_at "hp"))
  | ((refine' Jv.sqL_at ?sq1); (case sq1 => walk_at "hp"))
  | ((refine' Jv.sqT_new ?sq1 ?sq2); (case sq2 => assumption); (case sq1 => walk_at "sq"))
  | ((refine' Jv.sqL_new ?sq1 ?sq2); (case sq2 => assumption); (case sq1 => walk_at "sq"))
  | ((refine' L2.Same.seq ?sq1 ?sq2); (case sq1 => assumption); (case sq2 => assumption))
  | ((refine' Jv.Same.sqT ?sq1 ?sq2); (case sq1 => assumption); (case sq2 => assumption)))
local macro_rules | `(tactic| walk_at "r1") => `(tactic| first
  | ((with_reducible refine' Jv.r_gtup ?hq ?hl ?_); (case hq => walk_at "sq"); (case hl => rfl))
  | with_reducible refine Jv.r_gcons ?_
  | with_reducible refine Jv.r_gnil ?_
  | with_reducible refine Jv.r_iEn ?_
  | with_reducible refine Jv.r_iL ?_
  | with_reducible refine Jv.r_iT ?_
  | with_reducible refine Jv.r_yes ?_
  | with_reducible refine Jv.r_ift ?_
  | with_reducible refine Jv.r_iff ?_
  | ((with_reducible refine' Jv.r_new ?hn ?_); (case hn => exact Nat.le_of_ble_eq_true rfl))
  | ((with_reducible refine' Jv.r_wipe ?he ?_); (case he => rfl)))
local macro_rules | `(tactic| walk_at "len") => `(tactic| first
  | exact Or.inl (by walk_at "sq")
  | exact Or.inr (by walk_at "sq"))
local macro_rules | `(tactic| walk_at "r1") => `(tactic| first
  | ((with_reducible refine' Jv.r_ixL ?hs ?he ?_); (case hs => walk_at "sq"); (case he => rfl))
  | ((with_reducible refine' Jv.r_ixT ?hs ?he ?_); (case hs => walk_at "sq"); (case he => rfl))
  | ((with_reducible refine' Jv.r_setL ?hs ?he ?_); (case hs => walk_at "hp"); (case he => rfl))
  | ((with_reducible refine' Jv.r_len ?hs ?_); (case hs => walk_at "len")))
local macro_rules | `(tactic| walk_at "th") => `(tactic| first
  | assumption
  | exact Jv.Th.same (by assumption) (by assumption)
  | exact Jv.Th.same (by assumption) (Jv.same_new (by assumption))
  | exact trivial)
local macro_rules | `(tactic| walk_at "r1") => `(tactic| first
  | ((with_reducible refine' Jv.r_isB ?hx ?_); (case hx => walk_at "th"))
  | ((with_reducible refine' Jv.r_isI ?hx ?_); (case hx => walk_at "th"))
  | ((with_reducible refine' Jv.r_isS ?hp ?hx ?_); (case hp => walk_at "hp"); (case hx => walk_at "th"))
  | ((with_reducible refine' Jv.r_false ?he ?_); (case he => rfl))
  | ((with_reducible refine' Jv.r_true ?he ?_); (case he => rfl))
  | with_reducible refine Jv.r_rfl ?_)
local macro_rules | `(tactic| walk_at "r2") => `(tactic| first
  | walk_at "r1"
  | ((with_reducible refine' Jv.r_dec1 ?hd ?_); (case hd => omega))
  | ((with_reducible refine' Jv.r_dec0 ?hd ?_); (case hd => omega))
  | with_reducible refine Jv.r_decI (fun _ => ?_) (fun _ => ?_)
  | with_reducible refine Jv.r_ndecI (fun _ => ?_) (fun _ => ?_)
  | with_reducible refine Jv.r_dec (fun _ => ?_) (fun _ => ?_)
  | with_reducible refine Jv.r_ndec (fun _ => ?_) (fun _ => ?_))
local macro_rules | `(tactic| walk_at "rr") => `(tactic| (repeat' walk_at "r2"))
local macro_rules | `(tactic| walk_at "r1") => `(tactic| first
  | with_reducible refine Jv.r_min ?_
  | with_reducible refine Jv.r_max ?_
  | with_reducible refine Jv.r_absN ?_
  | with_reducible refine Jv.r_intN ?_)
local macro_rules | `(tactic| walk_at "r1") => `(tactic| first
  | with_reducible refine Jv.r_bm ?_
  | ((with_reducible refine' Jv.r_tyL ?hp ?_); (case hp => walk_at "hp")))

local macro_rules | `(tactic| walk_at "r1") => `(tactic| first
  | with_reducible refine Jv.r_callN ?_
  | with_reducible refine Jv.r_disp1 ?_
  | with_reducible refine Jv.r_same ?_)

local macro_rules | `(tactic| walk_at "dv") => `(tactic| first
  | assumption
  | exact Jv.Dv.same (by assumption) (by assumption)
  | exact Jv.Dv.same (Jv.same_new (by assumption)) (by assumption)
  | exact Jv.Dv.int _
  | exact Jv.Dv.non
  | exact Jv.Dv.bl _)
local macro_rules | `(tactic| walk_at "r1") => `(tactic| first
  | ((with_reducible refine' Jv.d_isB ?hx ?_); (case hx => walk_at "dv"))
  | ((with_reducible refine' Jv.d_isI ?hx ?_); (case hx => walk_at "dv"))
  | ((with_reducible refine' Jv.d_isS ?hp ?hx ?_); (case hp => walk_at "hp"); (case hx => walk_at "dv")))

namespace K35
open PySem PySem.Spec PyProof.Rows L2
def topS (i : Nat) : Stmt := PySem.Challenge.pw_risingcalls_k35_whole_counts_within_ends.main.body.getD i (.Pass ⟨0, 0, 0, 0⟩)
abbrev s_is_whole : Stmt := topS 8
abbrev s_is_sequence : Stmt := topS 9
abbrev s_check_ladder : Stmt := topS 10
abbrev s_allowed_ends : Stmt := topS 14
abbrev s_words_left : Stmt := topS 15
abbrev s_counts_by_words : Stmt := topS 16
abbrev s_split_at : Stmt := topS 17
abbrev s_told_split : Stmt := topS 18
abbrev s_told_within : Stmt := topS 19
abbrev s_told_count : Stmt := topS 20
abbrev s_Lmix : Stmt := topS 22
abbrev s_Lhand : Stmt := topS 23
abbrev s_Ldraw : Stmt := topS 24
abbrev s_Lis_number : Stmt := topS 25
abbrev s_Lnumbers : Stmt := topS 26
abbrev s_Lsome_ends : Stmt := topS 27
abbrev s_Lsome_words : Stmt := topS 28
abbrev s_Lallowed : Stmt := topS 29
abbrev s_Llevel : Stmt := topS 30
abbrev s_Lfree : Stmt := topS 31
abbrev s_Lcounts : Stmt := topS 32
abbrev s_Lsplit : Stmt := topS 33
abbrev s_Lodd_ladder : Stmt := topS 34
abbrev s_Lodd_ends : Stmt := topS 35
abbrev s_Lodd_words : Stmt := topS 36
abbrev s_Lrefused : Stmt := topS 37
abbrev s_Lat_door : Stmt := topS 38
abbrev s_Lis_told : Stmt := topS 39
abbrev s_Lis_asked : Stmt := topS 40
abbrev s_Lsmall : Stmt := topS 41
abbrev s_law : Stmt := topS 42
theorem sc_is_whole : FnScope ["thing", "low", "high"] ["thing", "low", "high"] (defScope s_is_whole) := ⟨rfl, rfl, rfl, by decide +kernel, rfl, by decide +kernel, by decide +kernel⟩
theorem sc_is_sequence : FnScope ["thing"] ["thing"] (defScope s_is_sequence) := ⟨rfl, rfl, rfl, by decide +kernel, rfl, by decide +kernel, by decide +kernel⟩
theorem sc_check_ladder : FnScope ["ladder", "most"] ["ladder", "most"] (defScope s_check_ladder) := ⟨rfl, rfl, rfl, by decide +kernel, rfl, by decide +kernel, by decide +kernel⟩
theorem sc_allowed_ends : FnScope ["ladder", "ends", "end"] ["ladder", "ends"] (defScope s_allowed_ends) := ⟨rfl, rfl, rfl, by decide +kernel, rfl, by decide +kernel, by decide +kernel⟩
theorem sc_words_left : FnScope ["ladder", "words"] ["ladder", "words"] (defScope s_words_left) := ⟨rfl, rfl, rfl, by decide +kernel, rfl, by decide +kernel, by decide +kernel⟩
theorem sc_counts_by_words : FnScope ["allowed", "words", "nobody", "found", "_", "told", "asked", "speaking", "waiting", "end", "let"] ["allowed", "words"] (defScope s_counts_by_words) := ⟨rfl, rfl, rfl, by decide +kernel, rfl, by decide +kernel, by decide +kernel⟩
theorem sc_split_at : FnScope ["allowed", "counts", "words", "end"] ["allowed", "counts", "words", "end"] (defScope s_split_at) := ⟨rfl, rfl, rfl, by decide +kernel, rfl, by decide +kernel, by decide +kernel⟩
theorem sc_told_split : FnScope ["ladder", "ends", "words", "end", "allowed", "most"] ["ladder", "ends", "words", "end"] (defScope s_told_split) := ⟨rfl, rfl, rfl, by decide +kernel, rfl, by decide +kernel, by decide +kernel⟩
theorem sc_told_within : FnScope ["ladder", "ends", "words", "end"] ["ladder", "ends", "words", "end"] (defScope s_told_within) := ⟨rfl, rfl, rfl, by decide +kernel, rfl, by decide +kernel, by decide +kernel⟩
theorem sc_told_count : FnScope ["ladder", "count", "later", "_"] ["ladder"] (defScope s_told_count) := ⟨rfl, rfl, rfl, by decide +kernel, rfl, by decide +kernel, by decide +kernel⟩
theorem sc_Lmix : FnScope ["_law_number", "_law_turn", "_law_one", "_law_two"] ["_law_number", "_law_turn"] (defScope s_Lmix) := ⟨rfl, rfl, rfl, by decide +kernel, rfl, by decide +kernel, by decide +kernel⟩
theorem sc_Lhand : FnScope ["_law_script", "_law_total", "_law_k", "_law_cell"] ["_law_script"] (defScope s_Lhand) := ⟨rfl, rfl, rfl, by decide +kernel, rfl, by decide +kernel, by decide +kernel⟩
theorem sc_Ldraw : FnScope ["_law_hand_here", "_law_many", "_law_cell", "_law_rest"] ["_law_hand_here", "_law_many"] (defScope s_Ldraw) := ⟨rfl, rfl, rfl, by decide +kernel, rfl, by decide +kernel, by decide +kernel⟩
theorem sc_Lis_number : FnScope ["_law_thing"] ["_law_thing"] (defScope s_Lis_number) := ⟨rfl, rfl, rfl, by decide +kernel, rfl, by decide +kernel, by decide +kernel⟩
theorem sc_Lnumbers : FnScope ["_law_thing", "_law_many", "_law_one"] ["_law_thing", "_law_many"] (defScope s_Lnumbers) := ⟨rfl, rfl, rfl, by decide +kernel, rfl, by decide +kernel, by decide +kernel⟩
theorem sc_Lsome_ends : FnScope ["_law_hand_here", "_law_ladder", "_law_found", "_law_k", "_law_at"] ["_law_hand_here", "_law_ladder"] (defScope s_Lsome_ends) := ⟨rfl, rfl, rfl, by decide +kernel, rfl, by decide +kernel, by decide +kernel⟩
theorem sc_Lsome_words : FnScope ["_law_hand_here", "_law_ladder", "_law_case"] ["_law_hand_here", "_law_ladder"] (defScope s_Lsome_words) := ⟨rfl, rfl, rfl, by decide +kernel, rfl, by decide +kernel, by decide +kernel⟩
theorem sc_Lallowed : FnScope ["_law_ladder", "_law_limits", "_law_stood"] ["_law_ladder", "_law_limits"] (defScope s_Lallowed) := ⟨rfl, rfl, rfl, by decide +kernel, rfl, by decide +kernel, by decide +kernel⟩
theorem sc_Llevel : FnScope ["_law_allowed_here", "_law_told", "_law_asked", "_law_more_told", "_law_more_asked", "_law_total", "_law_best", "_law_k", "_law_stood", "_law_own"] ["_law_allowed_here", "_law_told", "_law_asked"] (defScope s_Llevel) := ⟨rfl, rfl, rfl, by decide +kernel, rfl, by decide +kernel, by decide +kernel⟩
theorem sc_Lfree : FnScope ["_law_allowed_here", "_law_told", "_law_asked", "_law_k", "_law_own", "_law_more"] ["_law_allowed_here"] (defScope s_Lfree) := ⟨rfl, rfl, rfl, by decide +kernel, rfl, by decide +kernel, by decide +kernel⟩
theorem sc_Lcounts : FnScope ["_law_allowed_here", "_law_most", "_law_bound", "_law_told", "_law_asked", "_law_turn", "_law_one"] ["_law_allowed_here", "_law_most"] (defScope s_Lcounts) := ⟨rfl, rfl, rfl, by decide +kernel, rfl, by decide +kernel, by decide +kernel⟩
theorem sc_Lsplit : FnScope ["_law_allowed_here", "_law_most", "_law_stood", "_law_less", "_law_asked"] ["_law_allowed_here", "_law_most", "_law_stood"] (defScope s_Lsplit) := ⟨rfl, rfl, rfl, by decide +kernel, rfl, by decide +kernel, by decide +kernel⟩
theorem sc_Lodd_ladder : FnScope ["_law_hand_here", "_law_most", "_law_odd"] ["_law_hand_here", "_law_most"] (defScope s_Lodd_ladder) := ⟨rfl, rfl, rfl, by decide +kernel, rfl, by decide +kernel, by decide +kernel⟩
theorem sc_Lodd_ends : FnScope ["_law_hand_here", "_law_ladder", "_law_odd"] ["_law_hand_here", "_law_ladder"] (defScope s_Lodd_ends) := ⟨rfl, rfl, rfl, by decide +kernel, rfl, by decide +kernel, by decide +kernel⟩
theorem sc_Lodd_words : FnScope ["_law_hand_here", "_law_odd"] ["_law_hand_here"] (defScope s_Lodd_words) := ⟨rfl, rfl, rfl, by decide +kernel, rfl, by decide +kernel, by decide +kernel⟩
theorem sc_Lrefused : FnScope ["_law_call", "_law_found"] ["_law_call"] (defScope s_Lrefused) := ⟨rfl, rfl, rfl, by decide +kernel, rfl, by decide +kernel, by decide +kernel⟩
theorem sc_Lat_door : FnScope ["_law_way", "_law_ladder", "_law_limits", "_law_most", "_law_stood"] ["_law_way", "_law_ladder", "_law_limits", "_law_most", "_law_stood"] (defScope s_Lat_door) := ⟨rfl, rfl, rfl, by decide +kernel, rfl, by decide +kernel, by decide +kernel⟩
theorem sc_Lis_told : FnScope ["_law_allowed_here", "_law_most", "_law_stood", "_law_lot", "_law_many", "_law_number_of", "_law_kind", "_law_number", "_law_rest", "_law_parts", "_law_bad", "_law_k", "_law_one"] ["_law_allowed_here", "_law_most", "_law_stood", "_law_lot"] (defScope s_Lis_told) := ⟨rfl, rfl, rfl, by decide +kernel, rfl, by decide +kernel, by decide +kernel⟩
theorem sc_Lis_asked : FnScope ["_law_allowed_here", "_law_most", "_law_stood", "_law_lot", "_law_call"] ["_law_allowed_here", "_law_most", "_law_stood", "_law_lot"] (defScope s_Lis_asked) := ⟨rfl, rfl, rfl, by decide +kernel, rfl, by decide +kernel, by decide +kernel⟩
theorem sc_Lsmall : FnScope ["_law_hand_here", "_law_ladder", "_law_limits", "_law_most", "_law_allowed_here", "_law_bound", "_law_count", "_law_many"] ["_law_hand_here"] (defScope s_Lsmall) := ⟨rfl, rfl, rfl, by decide +kernel, rfl, by decide +kernel, by decide +kernel⟩
theorem sc_law : FnScope ["_law_script", "_law_hand_here", "_law_turn", "_law_stood", "_law_allowed_here", "_law_due", "_law_held", "_law_split_here", "_law_count", "_law_ladder", "_law_limits", "_law_most", "_law_odd", "_law_odd_end", "_law_odd_ends_here", "_law_odd_words_here", "_law_way"] ["_law_script"] (defScope s_law) := ⟨rfl, rfl, rfl, by decide +kernel, rfl, by decide +kernel, by decide +kernel⟩
structure Tx where
  f_is_whole : Addr
  d_is_whole : FuncData
  f_is_sequence : Addr
  d_is_sequence : FuncData
  f_check_ladder : Addr
  d_check_ladder : FuncData
  f_allowed_ends : Addr
  d_allowed_ends : FuncData
  f_words_left : Addr
  d_words_left : FuncData
  f_counts_by_words : Addr
  d_counts_by_words : FuncData
  f_split_at : Addr
  d_split_at : FuncData
  f_told_split : Addr
  d_told_split : FuncData
  f_told_within : Addr
  d_told_within : FuncData
  f_told_count : Addr
  d_told_count : FuncData
  f_Lmix : Addr
  d_Lmix : FuncData
  f_Lhand : Addr
  d_Lhand : FuncData
  f_Ldraw : Addr
  d_Ldraw : FuncData
  f_Lis_number : Addr
  d_Lis_number : FuncData
  f_Lnumbers : Addr
  d_Lnumbers : FuncData
  f_Lsome_ends : Addr
  d_Lsome_ends : FuncData
  f_Lsome_words : Addr
  d_Lsome_words : FuncData
  f_Lallowed : Addr
  d_Lallowed : FuncData
  f_Llevel : Addr
  d_Llevel : FuncData
  f_Lfree : Addr
  d_Lfree : FuncData
  f_Lcounts : Addr
  d_Lcounts : FuncData
  f_Lsplit : Addr
  d_Lsplit : FuncData
  f_Lodd_ladder : Addr
  d_Lodd_ladder : FuncData
  f_Lodd_ends : Addr
  d_Lodd_ends : FuncData
  f_Lodd_words : Addr
  d_Lodd_words : FuncData
  f_Lrefused : Addr
  d_Lrefused : FuncData
  f_Lat_door : Addr
  d_Lat_door : FuncData
  f_Lis_told : Addr
  d_Lis_told : FuncData
  f_Lis_asked : Addr
  d_Lis_asked : FuncData
  f_Lsmall : Addr
  d_Lsmall : FuncData
  f_law : Addr
  d_law : FuncData
  C_CallError : Addr
  C_BadLadder : Addr
  C_BadEnds : Addr
  C_BadEnd : Addr
  C_BadWords : Addr
  t_LADDER_MOST : Tok
  t_TOLD_LADDER_MOST : Tok
  t_COUNT_LADDER_MOST : Tok
  e1_is_whole : List Value
  e2_is_whole : List Value
  e1_check_ladder : List Value
  e3_told_split : List Value
  e3_told_within : List Value
structure Ok (K : PySem.W.Frag) (mg : Str → Option Value) (T : Tx) : Prop where
  F_is_whole : FunD K "is_whole" "is_whole" (defArgs s_is_whole) (defBody s_is_whole) (defScope s_is_whole) [.non, .non] [] T.f_is_whole T.d_is_whole
  m_is_whole : mg "is_whole" = some (.ref T.f_is_whole)
  b_is_whole : Binds K T.d_is_whole ["thing", "low", "high"] []
  b1_is_whole : Vals [.non] T.e1_is_whole ∧ Binds K T.d_is_whole ["thing", "low", "high"] T.e1_is_whole
  b2_is_whole : Vals [.non, .non] T.e2_is_whole ∧ Binds K T.d_is_whole ["thing", "low", "high"] T.e2_is_whole
  F_is_sequence : Fun K "is_sequence" "is_sequence" s_is_sequence T.f_is_sequence T.d_is_sequence
  m_is_sequence : mg "is_sequence" = some (.ref T.f_is_sequence)
  b_is_sequence : Binds K T.d_is_sequence ["thing"] []
  F_check_ladder : FunD K "check_ladder" "check_ladder" (defArgs s_check_ladder) (defBody s_check_ladder) (defScope s_check_ladder) [(.int 6)] [] T.f_check_ladder T.d_check_ladder
  m_check_ladder : mg "check_ladder" = some (.ref T.f_check_ladder)
  b_check_ladder : Binds K T.d_check_ladder ["ladder", "most"] []
  b1_check_ladder : Vals [(.int 6)] T.e1_check_ladder ∧ Binds K T.d_check_ladder ["ladder", "most"] T.e1_check_ladder
  F_allowed_ends : Fun K "allowed_ends" "allowed_ends" s_allowed_ends T.f_allowed_ends T.d_allowed_ends
  m_allowed_ends : mg "allowed_ends" = some (.ref T.f_allowed_ends)
  b_allowed_ends : Binds K T.d_allowed_ends ["ladder", "ends"] []
  F_words_left : Fun K "words_left" "words_left" s_words_left T.f_words_left T.d_words_left
  m_words_left : mg "words_left" = some (.ref T.f_words_left)
  b_words_left : Binds K T.d_words_left ["ladder", "words"] []
  F_counts_by_words : Fun K "counts_by_words" "counts_by_words" s_counts_by_words T.f_counts_by_words T.d_counts_by_words
  m_counts_by_words : mg "counts_by_words" = some (.ref T.f_counts_by_words)
  b_counts_by_words : Binds K T.d_counts_by_words ["allowed", "words"] []
  F_split_at : Fun K "split_at" "split_at" s_split_at T.f_split_at T.d_split_at
  m_split_at : mg "split_at" = some (.ref T.f_split_at)
  b_split_at : Binds K T.d_split_at ["allowed", "counts", "words", "end"] []
  F_told_split : Fun K "told_split" "told_split" s_told_split T.f_told_split T.d_told_split
  m_told_split : mg "told_split" = some (.ref T.f_told_split)
  b3_told_split : Vals [.non, .non, (.int 0)] T.e3_told_split ∧ Binds K T.d_told_split ["ladder", "ends", "words", "end"] T.e3_told_split
  F_told_within : Fun K "told_within" "told_within" s_told_within T.f_told_within T.d_told_within
  m_told_within : mg "told_within" = some (.ref T.f_told_within)
  b3_told_within : Vals [.non, .non, (.int 0)] T.e3_told_within ∧ Binds K T.d_told_within ["ladder", "ends", "words", "end"] T.e3_told_within
  F_told_count : Fun K "told_count" "told_count" s_told_count T.f_told_count T.d_told_count
  m_told_count : mg "told_count" = some (.ref T.f_told_count)
  b_told_count : Binds K T.d_told_count ["ladder"] []
  F_Lmix : Fun K "_law_mix" "_law_mix" s_Lmix T.f_Lmix T.d_Lmix
  m_Lmix : mg "_law_mix" = some (.ref T.f_Lmix)
  b_Lmix : Binds K T.d_Lmix ["_law_number", "_law_turn"] []
  F_Lhand : Fun K "_law_hand" "_law_hand" s_Lhand T.f_Lhand T.d_Lhand
  m_Lhand : mg "_law_hand" = some (.ref T.f_Lhand)
  b_Lhand : Binds K T.d_Lhand ["_law_script"] []
  F_Ldraw : Fun K "_law_draw" "_law_draw" s_Ldraw T.f_Ldraw T.d_Ldraw
  m_Ldraw : mg "_law_draw" = some (.ref T.f_Ldraw)
  b_Ldraw : Binds K T.d_Ldraw ["_law_hand_here", "_law_many"] []
  F_Lis_number : Fun K "_law_is_number" "_law_is_number" s_Lis_number T.f_Lis_number T.d_Lis_number
  m_Lis_number : mg "_law_is_number" = some (.ref T.f_Lis_number)
  b_Lis_number : Binds K T.d_Lis_number ["_law_thing"] []
  F_Lnumbers : Fun K "_law_numbers" "_law_numbers" s_Lnumbers T.f_Lnumbers T.d_Lnumbers
  m_Lnumbers : mg "_law_numbers" = some (.ref T.f_Lnumbers)
  b_Lnumbers : Binds K T.d_Lnumbers ["_law_thing", "_law_many"] []
  F_Lsome_ends : Fun K "_law_some_ends" "_law_some_ends" s_Lsome_ends T.f_Lsome_ends T.d_Lsome_ends
  m_Lsome_ends : mg "_law_some_ends" = some (.ref T.f_Lsome_ends)
  b_Lsome_ends : Binds K T.d_Lsome_ends ["_law_hand_here", "_law_ladder"] []
  F_Lsome_words : Fun K "_law_some_words" "_law_some_words" s_Lsome_words T.f_Lsome_words T.d_Lsome_words
  m_Lsome_words : mg "_law_some_words" = some (.ref T.f_Lsome_words)
  b_Lsome_words : Binds K T.d_Lsome_words ["_law_hand_here", "_law_ladder"] []
  F_Lallowed : Fun K "_law_allowed" "_law_allowed" s_Lallowed T.f_Lallowed T.d_Lallowed
  m_Lallowed : mg "_law_allowed" = some (.ref T.f_Lallowed)
  b_Lallowed : Binds K T.d_Lallowed ["_law_ladder", "_law_limits"] []
  F_Llevel : Fun K "_law_level" "_law_level" s_Llevel T.f_Llevel T.d_Llevel
  m_Llevel : mg "_law_level" = some (.ref T.f_Llevel)
  b_Llevel : Binds K T.d_Llevel ["_law_allowed_here", "_law_told", "_law_asked"] []
  F_Lfree : Fun K "_law_free" "_law_free" s_Lfree T.f_Lfree T.d_Lfree
  m_Lfree : mg "_law_free" = some (.ref T.f_Lfree)
  b_Lfree : Binds K T.d_Lfree ["_law_allowed_here"] []
  F_Lcounts : Fun K "_law_counts" "_law_counts" s_Lcounts T.f_Lcounts T.d_Lcounts
  m_Lcounts : mg "_law_counts" = some (.ref T.f_Lcounts)
  b_Lcounts : Binds K T.d_Lcounts ["_law_allowed_here", "_law_most"] []
  F_Lsplit : Fun K "_law_split" "_law_split" s_Lsplit T.f_Lsplit T.d_Lsplit
  m_Lsplit : mg "_law_split" = some (.ref T.f_Lsplit)
  b_Lsplit : Binds K T.d_Lsplit ["_law_allowed_here", "_law_most", "_law_stood"] []
  F_Lodd_ladder : Fun K "_law_odd_ladder" "_law_odd_ladder" s_Lodd_ladder T.f_Lodd_ladder T.d_Lodd_ladder
  m_Lodd_ladder : mg "_law_odd_ladder" = some (.ref T.f_Lodd_ladder)
  b_Lodd_ladder : Binds K T.d_Lodd_ladder ["_law_hand_here", "_law_most"] []
  F_Lodd_ends : Fun K "_law_odd_ends" "_law_odd_ends" s_Lodd_ends T.f_Lodd_ends T.d_Lodd_ends
  m_Lodd_ends : mg "_law_odd_ends" = some (.ref T.f_Lodd_ends)
  b_Lodd_ends : Binds K T.d_Lodd_ends ["_law_hand_here", "_law_ladder"] []
  F_Lodd_words : Fun K "_law_odd_words" "_law_odd_words" s_Lodd_words T.f_Lodd_words T.d_Lodd_words
  m_Lodd_words : mg "_law_odd_words" = some (.ref T.f_Lodd_words)
  b_Lodd_words : Binds K T.d_Lodd_words ["_law_hand_here"] []
  F_Lrefused : Fun K "_law_refused" "_law_refused" s_Lrefused T.f_Lrefused T.d_Lrefused
  m_Lrefused : mg "_law_refused" = some (.ref T.f_Lrefused)
  b_Lrefused : Binds K T.d_Lrefused ["_law_call"] []
  F_Lat_door : Fun K "_law_at_door" "_law_at_door" s_Lat_door T.f_Lat_door T.d_Lat_door
  m_Lat_door : mg "_law_at_door" = some (.ref T.f_Lat_door)
  b_Lat_door : Binds K T.d_Lat_door ["_law_way", "_law_ladder", "_law_limits", "_law_most", "_law_stood"] []
  F_Lis_told : Fun K "_law_is_told" "_law_is_told" s_Lis_told T.f_Lis_told T.d_Lis_told
  m_Lis_told : mg "_law_is_told" = some (.ref T.f_Lis_told)
  b_Lis_told : Binds K T.d_Lis_told ["_law_allowed_here", "_law_most", "_law_stood", "_law_lot"] []
  F_Lis_asked : Fun K "_law_is_asked" "_law_is_asked" s_Lis_asked T.f_Lis_asked T.d_Lis_asked
  m_Lis_asked : mg "_law_is_asked" = some (.ref T.f_Lis_asked)
  b_Lis_asked : Binds K T.d_Lis_asked ["_law_allowed_here", "_law_most", "_law_stood", "_law_lot"] []
  F_Lsmall : Fun K "_law_small" "_law_small" s_Lsmall T.f_Lsmall T.d_Lsmall
  m_Lsmall : mg "_law_small" = some (.ref T.f_Lsmall)
  b_Lsmall : Binds K T.d_Lsmall ["_law_hand_here"] []
  F_law : Fun K "law" "law" s_law T.f_law T.d_law
  m_law : mg "law" = some (.ref T.f_law)
  b_law : Binds K T.d_law ["_law_script"] []
  m_CallError : mg "CallError" = some (.ref T.C_CallError)
  e_CallError : Jv.ExcP K T.C_CallError
  m_BadLadder : mg "BadLadder" = some (.ref T.C_BadLadder)
  e_BadLadder : Jv.ExcP K T.C_BadLadder
  m_BadEnds : mg "BadEnds" = some (.ref T.C_BadEnds)
  e_BadEnds : Jv.ExcP K T.C_BadEnds
  m_BadEnd : mg "BadEnd" = some (.ref T.C_BadEnd)
  e_BadEnd : Jv.ExcP K T.C_BadEnd
  m_BadWords : mg "BadWords" = some (.ref T.C_BadWords)
  e_BadWords : Jv.ExcP K T.C_BadWords
  z_ValueError : mg "ValueError" = none
  z_abs : mg "abs" = none
  z_all : mg "all" = none
  z_bool : mg "bool" = none
  z_enumerate : mg "enumerate" = none
  z_int : mg "int" = none
  z_isinstance : mg "isinstance" = none
  z_len : mg "len" = none
  z_list : mg "list" = none
  z_max : mg "max" = none
  z_min : mg "min" = none
  z_range : mg "range" = none
  z_repr : mg "repr" = none
  z_sum : mg "sum" = none
  z_tuple : mg "tuple" = none
  c_LADDER_MOST : mg "LADDER_MOST" = some (.int (6) T.t_LADDER_MOST)
  c_TOLD_LADDER_MOST : mg "TOLD_LADDER_MOST" = some (.int (30) T.t_TOLD_LADDER_MOST)
  c_COUNT_LADDER_MOST : mg "COUNT_LADDER_MOST" = some (.int (200) T.t_COUNT_LADDER_MOST)
  u_BadEnds_BadLadder : PySem.W.subIn K (.ref T.C_BadEnds) (.ref T.C_BadLadder) = some false
  u_BadWords_BadLadder : PySem.W.subIn K (.ref T.C_BadWords) (.ref T.C_BadLadder) = some false
  u_BadWords_BadEnds : PySem.W.subIn K (.ref T.C_BadWords) (.ref T.C_BadEnds) = some false
  u_BadEnd_BadLadder : PySem.W.subIn K (.ref T.C_BadEnd) (.ref T.C_BadLadder) = some false
  u_BadEnd_BadEnds : PySem.W.subIn K (.ref T.C_BadEnd) (.ref T.C_BadEnds) = some false
  u_BadEnd_BadWords : PySem.W.subIn K (.ref T.C_BadEnd) (.ref T.C_BadWords) = some false
  kb1_ends_words_end_told_split : KBn K T.d_told_split ["ladder", "ends", "words", "end"] 1 ["ends", "words", "end"] (fun us ws => us ++ [ws.getD 0 .none, ws.getD 1 .none, ws.getD 2 .none]) (fun vs zs => vs ++ [zs.getD 0 .non, zs.getD 1 .non, zs.getD 2 .non])
  kb1_end_told_within : KBn K T.d_told_within ["ladder", "ends", "words", "end"] 1 ["end"] (fun us ws => us ++ [T.e3_told_within.getD 0 .none, T.e3_told_within.getD 1 .none, ws.getD 0 .none]) (fun vs zs => vs ++ [.non, .non, zs.getD 0 .non])
  kb1_ends_told_within : KBn K T.d_told_within ["ladder", "ends", "words", "end"] 1 ["ends"] (fun us ws => us ++ [ws.getD 0 .none, T.e3_told_within.getD 1 .none, T.e3_told_within.getD 2 .none]) (fun vs zs => vs ++ [zs.getD 0 .non, .non, (.int 0)])
  kb1_ends_words_told_within : KBn K T.d_told_within ["ladder", "ends", "words", "end"] 1 ["ends", "words"] (fun us ws => us ++ [ws.getD 0 .none, ws.getD 1 .none, T.e3_told_within.getD 2 .none]) (fun vs zs => vs ++ [zs.getD 0 .non, zs.getD 1 .non, (.int 0)])
  kb1_ends_words_end_told_within : KBn K T.d_told_within ["ladder", "ends", "words", "end"] 1 ["ends", "words", "end"] (fun us ws => us ++ [ws.getD 0 .none, ws.getD 1 .none, ws.getD 2 .none]) (fun vs zs => vs ++ [zs.getD 0 .non, zs.getD 1 .non, zs.getD 2 .non])
  kb1_words_ends_told_within : KBn K T.d_told_within ["ladder", "ends", "words", "end"] 1 ["words", "ends"] (fun us ws => us ++ [ws.getD 1 .none, ws.getD 0 .none, T.e3_told_within.getD 2 .none]) (fun vs zs => vs ++ [zs.getD 1 .non, zs.getD 0 .non, (.int 0)])
end K35

namespace K35
open PySem PySem.Spec PyProof.Rows L2
/-! ### the law's draws: any number below the bound may come -/
def sp_Lmix : Sp := fun vs H Q _ => ∃ n t : Int, vs = [.int n, .int t] ∧ (0 ≤ n ∧ n < 2147483648 ∧ 0 ≤ t ∧ t ≤ 1000) ∧ ∀ r : Int, 0 ≤ r → r < 134217728 → Q (.int r) H
theorem mix_end (z : Int) : 0 ≤ z % 2147483399 / 16 ∧ z % 2147483399 / 16 < 134217728 := by omega
section
variable {P : Program} {w : World} {K : PySem.W.Frag} {mg : Str → Option Value} {base : Heap}
theorem ok_Lmix (T : Tx) (O : Ok K mg T) : FnOk P w K mg base CX0 1 T.f_Lmix T.d_Lmix ["_law_number", "_law_turn"] sp_Lmix := by
  refine O.F_Lmix.ok sc_Lmix (fun vs H Q E h => by obtain ⟨n, t, rfl, _⟩ := h; rfl) (fun cdv A outer s H vs Q E hr h => ?_)
  obtain ⟨n, t, rfl, ⟨h1, h2, h3, h4⟩, q⟩ := h
  refine ⟨_, (pss_cons (ps_set (i := 2) sc_Lmix.nd rfl (Or.inl rfl) (pe_op op_mod (pe_callTy (r := Jv.rInt) Jv.cr_int (by rfl) O.z_int (by decide +kernel) (pa_cons (pe_op op_add (pe_op op_add (pe_op op_mul (pv 0) pe_int) (pe_op op_mul (pv 1) pe_int)) pe_int) pa_nil)) pe_int))
  (pss_cons (ps_set (i := 3) sc_Lmix.nd rfl (Or.inl rfl) (pe_op op_mod (pe_callTy (r := Jv.rInt) Jv.cr_int (by rfl) O.z_int (by decide +kernel) (pa_cons (pe_op op_add (pe_op op_add (pe_op op_mul (pv 2) pe_int) (pe_op op_mul (pv 1) pe_int)) (pe_op op_fdivW (pv 2) pe_int)) pa_nil)) pe_int))
  (pss_one (ps_ret (pe_op op_fdivW (pe_op op_mod (pe_callTy (r := Jv.rInt) Jv.cr_int (by rfl) O.z_int (by decide +kernel) (pa_cons (pe_op op_add (pe_op op_add (pe_op op_mul (pv 2) (pv 3)) (pe_op op_fdivW (pv 3) pe_int)) (pv 1)) pa_nil)) pe_int) pe_int))))), ?_⟩
  walk_at "r"
  exact q _ (mix_end _).1 (mix_end _).2
end
end K35

namespace Jv
open PySem PySem.Spec PyProof.Rows L2
/-! ### the hand: numbers still to be used, a place, a rest, a total -/
structure HandAt (H : Hp) (p l : Addr) (ns : List Int) (k c t : Int) : Prop where
  hp : H p = some (.lst [.ref l, .int k, .int c, .int t])
  hl : H l = some (.lst (ns.map V.int))
  nn : ∀ n ∈ ns, 0 ≤ n
  few : ns.length ≤ 63
  bd : 0 ≤ k ∧ k ≤ ns.length ∧ 0 ≤ c ∧ 0 ≤ t ∧ t < 2147483629
def Hand (H : Hp) (p l : Addr) : Prop := ∃ ns k c t, HandAt H p l ns k c t
theorem HandAt.ne {H : Hp} {p l : Addr} {ns : List Int} {k c t : Int} (h : HandAt H p l ns k c t) : l ≠ p := fun e => by
  have q := h.hp
  rw [← e, h.hl] at q
  have q2 := HO.lst.inj (Option.some.inj q)
  cases ns with
  | nil => cases q2
  | cons a r => cases q2
/-- all but what stands at p is as it was -/
def Kp (p : Addr) (H H' : Hp) : Prop := ∀ b o, b ≠ p → H b = some o → H' b = some o
theorem Kp.refl {p : Addr} {H : Hp} : Kp p H H := fun _ _ _ e => e
theorem Kp.trans {p : Addr} {H H1 H2 : Hp} (a : Kp p H H1) (b : Kp p H1 H2) : Kp p H H2 := fun c o n e => b c o n (a c o n e)
theorem Kp.same {p : Addr} {H H' : Hp} (a : Same H H') : Kp p H H' := fun c o _ e => a c o e
theorem Kp.upd {p : Addr} {H : Hp} {o : HO} : Kp p H (upd H p o) := fun c u n e => by rw [upd_ne n]; exact e
theorem Kp.new {p q : Addr} {H : Hp} {o : HO} (n : H q = none) : Kp p H (L2.upd H q o) := Kp.same (same_new n)
theorem Hand.same {H H' : Hp} {p l : Addr} (h : Hand H p l) (s : Same H H') : Hand H' p l := by
  obtain ⟨ns, k, c, t, h⟩ := h
  exact ⟨ns, k, c, t, s _ _ h.hp, s _ _ h.hl, h.nn, h.few, h.bd⟩
theorem Hand.at {H : Hp} {p l : Addr} (h : Hand H p l) : ∃ o, H p = some o := by
  obtain ⟨ns, k, c, t, h⟩ := h
  exact ⟨_, h.hp⟩
theorem Hand.set {H : Hp} {p l : Addr} {ns : List Int} {k c t k' c' t' : Int} (h : HandAt H p l ns k c t) (b : 0 ≤ k' ∧ k' ≤ ns.length ∧ 0 ≤ c' ∧ 0 ≤ t' ∧ t' < 2147483629) :
    HandAt (upd H p (.lst [.ref l, .int k', .int c', .int t'])) p l ns k' c' t' :=
  ⟨upd_same, by rw [upd_ne h.ne]; exact h.hl, h.nn, h.few, b⟩
end Jv
namespace K35
open PySem PySem.Spec PyProof.Rows L2
def sp_Lhand (K : PySem.W.Frag) : Sp := fun vs H Q _ => ∃ (a : Addr) (ns : List Int), vs = [.ref a] ∧ SqL K H a (ns.map V.int) ∧ ns.length ≤ 63 ∧ ∀ p l H', Same H H' → H p = none → Jv.Hand H' p l → Q (.ref p) H'
section
variable {P : Program} {w : World} {K : PySem.W.Frag} {mg : Str → Option Value} {base : Heap}
theorem ok_Lhand (T : Tx) (O : Ok K mg T) : FnOk P w K mg base CX0 1 T.f_Lhand T.d_Lhand ["_law_script"] (sp_Lhand K) := by
  refine O.F_Lhand.ok sc_Lhand (fun vs H Q E h => by obtain ⟨a, ns, rfl, _⟩ := h; rfl) (fun cdv A outer s H vs Q E hr h => ?_)
  obtain ⟨a, ns, rfl, hS, few, q⟩ := h
  refine ⟨_, (pss_cons (ps_set (i := 1) sc_Lhand.nd rfl (Or.inl rfl) pe_int)
  (pss_cons (ps_for PassesOwn.never rfl (show PI _ _ _ (iEnum K _) from pi_enum (by rfl) O.z_enumerate (pa_cons (pv 0) pa_nil)) (pg_tup rfl (pgs_cons (pg_name (i := 2) sc_Lhand.nd rfl (Or.inl rfl)) (pgs_cons (pg_name (i := 3) sc_Lhand.nd rfl (Or.inl rfl)) pgs_nil))) (pss_one (ps_set (i := 1) sc_Lhand.nd rfl (Or.inl rfl) (pe_op op_mod (pe_callTy (r := Jv.rInt) Jv.cr_int (by rfl) O.z_int (by decide +kernel) (pa_cons (pe_op op_add (pe_op op_mul (pv 1) pe_int) (pe_op op_mul (pe_callTy (r := Jv.rInt) Jv.cr_int (by rfl) O.z_int (by decide +kernel) (pa_cons (pv 3) pa_nil)) (pe_op op_add (pv 2) pe_int))) pa_nil)) pe_int))))
  (pss_one (ps_ret (pe_lst (pa_cons (pe_lc (own := [("_law_cell", 3)]) (by rfl) sc_Lhand.nd (show PI _ _ _ (iList K _) from pi_list (pv 0)) (blkOk_by (own := [("_law_cell", 3)]) (N := ["_law_script", "_law_total", "_law_k", "_law_cell"]) (sc := defScope s_Lhand) (scope := ({ kind := .function, names := [(".0", .local), ("_law_cell", .local), ("abs", .globalImplicit), ("int", .globalImplicit)], isGenerator := false, isCoroutine := false } : Scope)) (by decide +kernel)) (fun _ _ _ _ _ => (pg_name (i := 3) sc_Lhand.nd rfl (Or.inl rfl))) (fun _ _ _ _ _ => pts_nil) (fun _ _ _ _ _ => (pe_callB (r := Jv.rAbs) Jv.cr_abs (by rfl) O.z_abs (by decide +kernel) (pa_cons (pe_callTy (r := Jv.rInt) Jv.cr_int (by rfl) O.z_int (by decide +kernel) (pa_cons (pv 3) pa_nil)) pa_nil)))) (pa_cons pe_int (pa_cons pe_int (pa_cons (pv 1) pa_nil))))))))), ?_⟩
  walk_at "r"
  refine ⟨_, _, rfl, hS, ?_⟩
  refine for_it (walk_enum (K := K) (a := a) (xs := ns.map V.int)) (fun i σ H' => ∃ y2 y3 tot, σ = [some (.ref a), some (.int tot), y2, y3] ∧ (0 ≤ tot ∧ tot < 2147483629) ∧ Same H H') ⟨_, _, 0, rfl, by decide, fun _ _ e => e⟩ (fun i σ H' _ ⟨_, _, _, _, _, sm⟩ => sm.seq hS) ?_ ?_
  · rintro i x σ H1 H2 hi ⟨y2, y3, tot, rfl, hb, sm⟩ ⟨p, x1, x2, rfl, hp, rfl, hx, hy⟩
    cases hx
    obtain ⟨z, hz, rfl⟩ := Jv.map_at (show (ns.map V.int)[i]? = some x2 from hy)
    rw [List.length_map] at hi
    walk_at "r"
    exact ⟨_, _, _, rfl, by omega, sm.trans (Jv.same_new hp)⟩
  · rintro σ H' ⟨y2, y3, tot, rfl, hb, sm⟩
    walk_at "r"
    refine ⟨_, rfl, _, rfl, ⟨_, sm.seq hS⟩, fun p hp => ?_⟩
    refine lc_it (walk_list (K := K) (a := a) (xs := ns.map V.int)) (fun i H1 => ∃ zs : List Int, Same H H1 ∧ H1 p = some (.lst (zs.map V.int)) ∧ zs.length = i ∧ ∀ z ∈ zs, 0 ≤ z) ⟨[], sm.trans (Jv.same_new hp), upd_same, rfl, by simp⟩ (fun i H1 _ ⟨_, s1, _⟩ => s1.seq hS) ?_ ?_
    · rintro i x H1 H2 hi ⟨zs, s1, e1, hl, nn⟩ ⟨rfl, hx⟩
      obtain ⟨z, hz, rfl⟩ := Jv.map_at hx
      rw [List.length_map] at hi
      walk_at "r"
      refine ⟨zs.map V.int, e1, ?_, zs ++ [if z < 0 then -z else z], ?_, ?_, ?_, ?_⟩
      · rw [List.length_map, hl]; exact Jv.small_lt (by omega)
      · intro b o e; exact Jv.kpO (s1 b o e) (ne_of_none (sm b o e) hp)
      · rw [upd_same, List.map_append]; rfl
      · rw [List.length_append, hl]; rfl
      · intro y hy
        rcases List.mem_append.mp hy with hy | hy
        · exact nn y hy
        · rw [List.mem_singleton.mp hy]; split <;> omega
    · rintro H1 ⟨zs, s1, e1, hl, nn⟩
      walk_at "r"
      intro p2 hp2
      rw [List.length_map] at hl
      exact q p2 p _ (s1.trans (Jv.same_new hp2)) (s1.free hp2) ⟨zs, 0, 0, tot, upd_same, Jv.kp e1 hp2, nn, by omega, by omega⟩
end
end K35

namespace K35
open PySem PySem.Spec PyProof.Rows L2
def sp_Ldraw : Sp := fun vs H Q _ => ∃ (p l : Addr) (m : Int), vs = [.ref p, .int m] ∧ Jv.Hand H p l ∧ (0 < m ∧ m.natAbs.log2 < 9000) ∧ ∀ r H', 0 ≤ r → r < m → Jv.Kp p H H' → Jv.Hand H' p l → Q (.int r) H'
section
variable {P : Program} {w : World} {K : PySem.W.Frag} {mg : Str → Option Value} {base : Heap}
theorem ok_Ldraw (T : Tx) (O : Ok K mg T) : FnOk P w K mg base CX0 2 T.f_Ldraw T.d_Ldraw ["_law_hand_here", "_law_many"] sp_Ldraw := by
  refine O.F_Ldraw.ok sc_Ldraw (fun vs H Q E h => by obtain ⟨_, _, _, rfl, _⟩ := h; rfl) (fun cdv A outer s H vs Q E hr h => ?_)
  obtain ⟨p, l, m, rfl, ⟨ns, k, c, t, hA⟩, ⟨m0, m1⟩, q⟩ := h
  obtain ⟨hp, hl, nn, few, b1, b2, b3, b4, b5⟩ := id hA
  have nlp := hA.ne
  have e0 : ∀ z : Int, 0 ≤ z % m := fun z => Int.emod_nonneg _ (by omega)
  have e1 : ∀ z : Int, z % m < m := fun z => Int.emod_lt_of_pos _ m0
  refine ⟨_, (C8.pss_cut (ps_if (PW.pt (pw_and (pt_cmpR op_eq (pe_ix (r := rIxL K) ix_list (pv 0) pe_int (fun _ _ => rfl)) pe_int (nomark _)) (pw_and1 (pt_cmpR op_lt (pe_ix (r := rIxL K) ix_list (pv 0) pe_int (fun _ _ => rfl)) (pe_callB (r := Jv.rLenK K) Jv.cr_len (by rfl) O.z_len (by decide +kernel) (pa_cons (pe_ix (r := rIxL K) ix_list (pv 0) pe_int (fun _ _ => rfl)) pa_nil)) (nomark _))))) (pss_cons (ps_set (i := 2) sc_Ldraw.nd rfl (Or.inl rfl) (pe_ix (r := rIxL K) ix_list (pe_ix (r := rIxL K) ix_list (pv 0) pe_int (fun _ _ => rfl)) (pe_ix (r := rIxL K) ix_list (pv 0) pe_int (fun _ _ => rfl)) (fun _ _ => rfl)))
  (pss_cons (ps_asg (pe_op op_add (pe_ix (r := rIxL K) ix_list (pv 0) pe_int (fun _ _ => rfl)) pe_int) (pg_sub (pv 0) pe_int set_list))
  (pss_cons (ps_if (pt_cmpR op_lt (pv 2) (pe_op op_pow pe_int pe_int) (nomark _)) (pss_one (ps_ret (pe_op op_mod (pe_callTy (r := Jv.rInt) Jv.cr_int (by rfl) O.z_int (by decide +kernel) (pa_cons (pe_call (ok_Lmix T O) (hr.mono (by decide)) (by rfl) O.m_Lmix O.F_Lmix.kp O.b_Lmix .nil pass0 (pa_cons (pe_op op_mod (pe_callTy (r := Jv.rInt) Jv.cr_int (by rfl) O.z_int (by decide +kernel) (pa_cons (pv 2) pa_nil)) pe_int) (pa_cons (pe_ix (r := rIxL K) ix_list (pv 0) pe_int (fun _ _ => rfl)) pa_nil))) pa_nil)) (pv 1)))) pss_nil)
  (pss_one (ps_asg (pv 2) (pg_sub (pv 0) pe_int set_list)))))) pss_nil)
  (pss_cons (ps_if (pt_cmpR op_gt (pe_ix (r := rIxL K) ix_list (pv 0) pe_int (fun _ _ => rfl)) pe_int (nomark _)) (pss_cons (ps_set (i := 3) sc_Ldraw.nd rfl (Or.inl rfl) (pe_ix (r := rIxL K) ix_list (pv 0) pe_int (fun _ _ => rfl)))
  (pss_cons (ps_asg (pe_op op_fdivW (pv 3) (pv 1)) (pg_sub (pv 0) pe_int set_list))
  (pss_one (ps_ret (pe_op op_mod (pe_callTy (r := Jv.rInt) Jv.cr_int (by rfl) O.z_int (by decide +kernel) (pa_cons (pv 3) pa_nil)) (pv 1)))))) pss_nil)
  (pss_cons (ps_asg (pe_op op_mod (pe_callTy (r := Jv.rInt) Jv.cr_int (by rfl) O.z_int (by decide +kernel) (pa_cons (pe_op op_add (pe_ix (r := rIxL K) ix_list (pv 0) pe_int (fun _ _ => rfl)) pe_int) pa_nil)) pe_int) (pg_sub (pv 0) pe_int set_list))
  (pss_one (ps_ret (pe_op op_mod (pe_callTy (r := Jv.rInt) Jv.cr_int (by rfl) O.z_int (by decide +kernel) (pa_cons (pe_call (ok_Lmix T O) (hr.mono (by decide)) (by rfl) O.m_Lmix O.F_Lmix.kp O.b_Lmix .nil pass0 (pa_cons (pe_ix (r := rIxL K) ix_list (pv 0) pe_int (fun _ _ => rfl)) (pa_cons (pe_ix (r := rIxL K) ix_list (pv 0) pe_int (fun _ _ => rfl)) pa_nil))) pa_nil)) (pv 1))))))), ?_⟩
  refine ⟨fun σ' H' => ∃ k c t y2 y3, σ' = [some (.ref p), some (.int m), y2, y3] ∧ Jv.HandAt H' p l ns k c t ∧ Jv.Kp p H H', ?_, ?_⟩
  · walk_at "r"
    refine Jv.r_decI (fun hc => ?_) (fun hc => ?_)
    · walk_at "r"
      refine Jv.r_dec (fun hk => ?_) (fun hk => ?_)
      · rw [List.length_map] at hk
        have hk2 : k.toNat < ns.length := by omega
        have at1 : atI (ns.map V.int) k = some (.int ns[k.toNat]) := Jv.at_i b1 (Jv.map_get hk2)
        have n0 := nn ns[k.toNat] (List.getElem_mem _)
        generalize ns[k.toNat] = z at at1 n0
        walk_at "r"
        refine' Jv.r_ixL ?hs at1 ?_
        case hs => walk_at "sq"
        walk_at "r"
        refine Jv.r_dec (fun hz => ?_) (fun hz => ?_)
        · walk_at "r"
          refine ⟨_, _, rfl, ⟨by omega, by omega, by omega, by omega⟩, fun r h1 h2 => ?_⟩
          walk_at "r"
          exact q _ _ (e0 _) (e1 _) Jv.Kp.upd ⟨_, _, _, _, Jv.Hand.set hA ⟨by omega, by omega, b3, b4, b5⟩⟩
        · walk_at "r"
          exact ⟨k + 1, z, t, _, _, rfl, Jv.Hand.set (Jv.Hand.set hA ⟨by omega, by omega, b3, b4, b5⟩) ⟨by omega, by omega, n0, b4, b5⟩, Jv.Kp.upd.trans Jv.Kp.upd⟩
      · walk_at "r"
        exact ⟨k, c, t, _, _, rfl, hA, Jv.Kp.refl⟩
    · walk_at "r"
      exact ⟨k, c, t, _, _, rfl, hA, Jv.Kp.refl⟩
  · rintro σ' H' ⟨k, c, t, y2, y3, rfl, hB, kp⟩
    obtain ⟨hp, hl, nn, few, b1, b2, b3, b4, b5⟩ := id hB
    walk_at "r"
    refine Jv.r_dec (fun hc => ?_) (fun hc => ?_)
    · walk_at "r"
      refine q _ _ (e0 _) (e1 _) (kp.trans Jv.Kp.upd) ⟨_, _, _, _, Jv.Hand.set hB ⟨b1, b2, Int.ediv_nonneg b3 (by omega), b4, b5⟩⟩
    · walk_at "r"
      refine ⟨_, _, rfl, ⟨by omega, by omega, b1, by omega⟩, fun r h1 h2 => ?_⟩
      walk_at "r"
      exact q _ _ (e0 _) (e1 _) (kp.trans Jv.Kp.upd) ⟨_, _, _, _, Jv.Hand.set hB ⟨b1, b2, b3, by omega, by omega⟩⟩
end
end K35

namespace Jv
open PySem PySem.Spec PyProof.Rows L2
/-! ### what is made later -/
/-- H' without the lists that H has -/
def newer (H H' : Hp) : Hp := fun b => match H b with
  | some (.lst _) => none
  | _ => H' b
theorem DvAll.app {K : PySem.W.Frag} {H : Hp} : ∀ {vs ws : List V} {ds es : List PyData}, DvAll K H vs ds → DvAll K H ws es → DvAll K H (vs ++ ws) (ds ++ es)
  | _, _, _, _, .nil, q => q
  | _, _, _, _, .cons a b, q => .cons a (DvAll.app b q)
section
variable {K : PySem.W.Frag} {H H' H1 : Hp} {b : Addr} {o : HO} {N : List Addr}
theorem newer_le : Same (newer H H') H' := fun b o e => by
  unfold newer at e
  split at e
  · cases e
  · exact e
theorem newer_at (n : ∀ ys, H b ≠ some (.lst ys)) (e : H' b = some o) : newer H H' b = some o := by
  unfold newer
  split
  · rename_i ys h; exact (n ys h).elim
  · exact e
theorem newer_new (n : H b = none) (e : H' b = some o) : newer H H' b = some o := newer_at (fun ys h => by rw [n] at h; cases h) e
theorem newer_not (e : newer H H' b = some o) : (∀ ys, H b ≠ some (.lst ys)) ∧ H' b = some o := by
  refine ⟨fun ys h => ?_, newer_le b o e⟩
  unfold newer at e
  rw [h] at e; cases e
theorem newer_hide (hN : ∀ b ∈ N, ∃ ys, H b = some (.lst ys)) : Same (newer H H') (hide N H') := fun b o e => by
  obtain ⟨h1, h2⟩ := newer_not e
  exact hide_at (fun m => by obtain ⟨ys, h⟩ := hN b m; exact h1 ys h) h2
theorem newer_same (s : Same H' H1) : Same (newer H H') (newer H H1) := fun b o e => by
  obtain ⟨h1, h2⟩ := newer_not e
  exact newer_at h1 (s _ _ h2)
theorem newer_sub (hs : ∀ b ys, H b = some (.lst ys) → ∃ zs, H1 b = some (.lst zs)) : Same (newer H1 H') (newer H H') := fun b o e => by
  obtain ⟨h1, h2⟩ := newer_not e
  exact newer_at (fun ys h => by obtain ⟨zs, hz⟩ := hs b ys h; exact h1 zs hz) h2
end
end Jv
namespace Jv
open PySem PySem.Spec PyProof.Rows L2
/-! ### the hand beside data -/
section
variable {K : PySem.W.Frag} {H H' H1 : Hp} {p l b : Addr} {o : HO}
theorem Hand.ne2 (h : Hand H p l) (n : H b = none) : b ≠ p ∧ b ≠ l := by
  obtain ⟨ns, k, c, t, hA⟩ := h
  exact ⟨fun e => (by rw [e, hA.hp] at n; cases n), fun e => (by rw [e, hA.hl] at n; cases n)⟩
theorem Hand.upd (h : Hand H p l) (n1 : b ≠ p) (n2 : b ≠ l) : Hand (L2.upd H b o) p l := by
  obtain ⟨ns, k, c, t, hA⟩ := h
  exact ⟨ns, k, c, t, by rw [upd_ne n1.symm]; exact hA.hp, by rw [upd_ne n2.symm]; exact hA.hl, hA.nn, hA.few, hA.bd⟩
theorem Kp.free (k : Kp p H H') (h : Hand H' p l) (n : H' b = none) : H b = none := by
  cases e : H b with
  | none => rfl
  | some o =>
    obtain ⟨u, hu⟩ := h.at
    by_cases nb : b = p
    · rw [nb, hu] at n; cases n
    · rw [k b o nb e] at n; cases n
theorem Kp.hide (k : Kp p H H') : Same (Jv.hide [p] H) (Jv.hide [p] H') := fun b o e => by
  obtain ⟨n, e2⟩ := hide_some e
  exact hide_at n (k b o (fun h => n (by rw [h]; exact List.mem_singleton.mpr rfl)) e2)
theorem hide_one {p b : Addr} {o : HO} (n : b ≠ p) (h : H b = some o) : Jv.hide [p] H b = some o := hide_at (fun m => n (List.mem_singleton.mp m)) h
theorem Kp.hideM {N : List Addr} (k : Kp p H H') (m : p ∈ N) : Same (Jv.hide N H) (Jv.hide N H') := fun b o e => by
  obtain ⟨n, e2⟩ := hide_some e
  exact hide_at n (k b o (fun h => n (by rw [h]; exact m)) e2)
theorem Hand.lst (h : Hand H p l) : ∀ b ∈ [p], ∃ ys, H b = some (.lst ys) := fun b m => by
  rw [List.mem_singleton.mp m]
  obtain ⟨_, _, _, _, hA⟩ := h
  exact ⟨_, hA.hp⟩
theorem Hand.neTup {xs : List V} (h : Hand H p l) (e : H b = some (.tup xs)) : b ≠ p := fun z => by
  obtain ⟨_, _, _, _, hA⟩ := h
  rw [z, hA.hp] at e; cases e
theorem eqv_self {d : PyData} (h : SeqAt.shaped d = true) : PyData.eqv d d = true := SeqAt.eqv_refl d (SeqAt.canLay_of_shaped h)
theorem ne_self {Q : VK} {x y : V} {d : PyData} (hx : Jv.Dv K H x d) (hy : Jv.Dv K H y d) (h : SeqAt.shaped d = true) (q : Q (.bl false) H) : rNeD K x y H Q :=
  ⟨d, d, hx.dp, hy.dp, h, h, by rw [eqv_self h]; exact q⟩
theorem eq_self {Q : VK} {x y : V} {d : PyData} (hx : Jv.Dv K H x d) (hy : Jv.Dv K H y d) (h : SeqAt.shaped d = true) (q : Q (.bl true) H) : rEqD K x y H Q :=
  ⟨d, d, hx.dp, hy.dp, h, h, by rw [eqv_self h]; exact q⟩
theorem r_make0 {C : Addr} {sp : Sp} {dvs : List V} {E : XK} {t : TA} {σ : L2.St} {Q : VK} (h : t σ H fun vs H1 => ∀ x dx, H1 x = none → H1 dx = none → dx ≠ x →
  sp (.ref x :: (vs ++ dvs)) (L2.upd (L2.upd H1 dx (.own x)) x (.ins C dx [])) (fun v H2 => v = .non ∧ Q (.ref x) H2) E) : tMake C sp dvs E t σ H Q := h
theorem gen_make {C : Addr} {sp : Sp} {dvs : List V} {E : XK} {t : TA} {σ : L2.St} {Q : VK} (h : ∀ Q' : VK, (∀ v H, Q v H → Q' v H) → tMake C sp dvs E t σ H Q') : tMake C sp dvs E t σ H Q := h Q fun _ _ q => q
theorem r_methC {m : Str} {C : Addr} {sp : Sp} {dvs : List V} {E : L2.St → XK} {ta : TE} {t : TA} {σ : L2.St} {Q : VK} (h : ta σ H fun x H1 => ∃ a dx fs, x = .ref a ∧ H1 a = some (.ins C dx fs) ∧ fs.lookup m = none ∧ t σ H1 fun vs H2 => sp (x :: (vs ++ dvs)) H2 Q (E σ)) : Jv.tMethX C m sp dvs E ta t σ H Q := h
theorem r_makeC {C : Addr} {sp : Sp} {dvs : List V} {E : L2.St → XK} {t : TA} {σ : L2.St} {Q : VK} (h : t σ H fun vs H1 => ∀ x dx, H1 x = none → H1 dx = none → dx ≠ x →
  sp (.ref x :: (vs ++ dvs)) (L2.upd (L2.upd H1 dx (.own x)) x (.ins C dx [])) (fun v H2 => v = .non ∧ Q (.ref x) H2) (E σ)) : Jv.tMakeX C sp dvs E t σ H Q := h
/-- one of a list's elements -/
theorem pickH {H2 : Hp} {Q : VK} {t : Addr} {xs : List V} {ds : List PyData} {z : Int} (e : H t = some (.lst xs)) (al : Jv.DvAll K H2 xs ds) (z0 : 0 ≤ z) (z1 : z < xs.length) (k : ∀ v d, d ∈ ds → Jv.Dv K H2 v d → Q v H) : rIxL K (.ref t) (.int z) H Q := by
  have hz : z.toNat < xs.length := by omega
  obtain ⟨d, hd, dv⟩ := al.at (List.getElem?_eq_getElem hz)
  exact Jv.r_ixL (Jv.sqL_at e) (Jv.at_i z0 (List.getElem?_eq_getElem hz)) (k _ d (List.mem_of_getElem? hd) dv)
theorem shaped_word : SeqAt.shaped (.list [.str "bad"]) = true := by decide +kernel
end
end Jv
namespace K35
open PySem PySem.Spec PyProof.Rows L2
/-! ### the law's own things -/
def sp_Lwhole (K : PySem.W.Frag) : Sp := fun vs H Q _ => ∃ x d, vs = [x] ∧ Jv.Dv K H x d ∧ Q (.bl (Jv.intD d)) H
theorem inV_ints {z : Int} : ∀ {ns : List Int}, inV (.int z) (ns.map V.int) = decide (z ∈ ns)
  | [] => by simp [inV]
  | a :: r => by
    have ih := inV_ints (z := z) (ns := r)
    unfold inV at ih ⊢
    rw [List.map_cons, List.any_cons, ih]
    by_cases h : a = z
    · subst h; simp [eqV]
    · have h2 : ¬ z = a := fun e => h e.symm
      simp [eqV, h, h2]
theorem flat_ints (ns : List Int) : (ns.map V.int).all flatV = true := by
  rw [List.all_map, List.all_eq_true]; intro n _; rfl
section
variable {P : Program} {w : World} {K : PySem.W.Frag} {mg : Str → Option Value} {base : Heap}
end
end K35

namespace K35
def own (b : Bool) : Int := if b = true then 1 else 0
theorem own_01 (b : Bool) : 0 ≤ own b ∧ own b ≤ 1 := by cases b <;> decide
def lv (f : List Bool → Int) : List Bool → List Int
  | [] => []
  | b :: bs => f (b :: bs) :: lv f bs
def mx (d : Int) : List Int → Int
  | [] => d
  | x :: xs => if mx d xs < x then x else mx d xs
theorem mx_le {d : Int} : ∀ {xs : List Int}, (∀ y ∈ xs, y ≤ mx d xs) ∧ d ≤ mx d xs
  | [] => ⟨fun _ h => (by cases h), Int.le_refl _⟩
  | x :: xs => by
    obtain ⟨h1, h2⟩ := mx_le (d := d) (xs := xs)
    simp only [mx]
    split
    · refine ⟨fun y hy => ?_, by omega⟩
      rcases List.mem_cons.mp hy with rfl | hy
      · omega
      · have := h1 y hy; omega
    · refine ⟨fun y hy => ?_, h2⟩
      rcases List.mem_cons.mp hy with rfl | hy
      · omega
      · exact h1 y hy
theorem mx_mem {d : Int} : ∀ {xs : List Int}, mx d xs = d ∨ mx d xs ∈ xs
  | [] => .inl rfl
  | x :: xs => by
    simp only [mx]
    split
    · exact .inr List.mem_cons_self
    · rcases mx_mem (d := d) (xs := xs) with h | h
      · exact .inl h
      · exact .inr (List.mem_cons_of_mem _ h)
theorem mx_is {d m : Int} {xs : List Int} (h1 : m ∈ d :: xs) (h2 : ∀ y ∈ d :: xs, y ≤ m) : m = mx d xs := by
  obtain ⟨a, b⟩ := mx_le (d := d) (xs := xs)
  have c : mx d xs ≤ m := by
    rcases mx_mem (d := d) (xs := xs) with h | h
    · rw [h]; exact h2 _ List.mem_cons_self
    · exact h2 _ (List.mem_cons_of_mem _ h)
  rcases List.mem_cons.mp h1 with e | e
  · omega
  · have := a _ e; omega
theorem mx_up {d : Int} (h : 0 ≤ d) {xs : List Int} : (mx 0 xs > d → mx d xs = mx 0 xs) ∧ (¬ mx 0 xs > d → mx d xs = d) := by
  obtain ⟨a, b⟩ := mx_le (d := 0) (xs := xs)
  refine ⟨fun g => (mx_is ?_ fun y hy => ?_).symm, fun g => (mx_is List.mem_cons_self fun y hy => ?_).symm⟩
  · rcases mx_mem (d := 0) (xs := xs) with e | e
    · omega
    · exact List.mem_cons_of_mem _ e
  · rcases List.mem_cons.mp hy with e | e
    · omega
    · exact a _ e
  · rcases List.mem_cons.mp hy with e | e
    · omega
    · have := a _ e; omega
def TS : Nat → (List Bool → Int) × (List Bool → Int)
  | 0 => (fun _ => 0, fun _ => 0)
  | m + 1 => (fun | [] => 0 | b :: bs => own b + (lv (TS m).2 bs).sum, fun | [] => 0 | b :: bs => mx (own b) (lv (TS m).1 bs))
def tT (m : Nat) : List Bool → Int := (TS m).1
def tS (m : Nat) : List Bool → Int := (TS m).2
theorem T_cons {m : Nat} {b : Bool} {bs : List Bool} : tT (m + 1) (b :: bs) = own b + (lv (tS m) bs).sum := rfl
theorem S_cons {m : Nat} {b : Bool} {bs : List Bool} : tS (m + 1) (b :: bs) = mx (own b) (lv (tT m) bs) := rfl
theorem sum_nn : ∀ {xs : List Int}, (∀ x ∈ xs, 0 ≤ x) → 0 ≤ xs.sum
  | [], _ => by simp
  | x :: xs, h => by
    have h1 := h x List.mem_cons_self
    have h2 := sum_nn fun y hy => h y (List.mem_cons_of_mem _ hy)
    rw [List.sum_cons]; omega
theorem lv_mem {f : List Bool → Int} (h : ∀ B, 0 ≤ f B) : ∀ {bs : List Bool} {x : Int}, x ∈ lv f bs → 0 ≤ x
  | [], _, e => by cases e
  | b :: bs, x, e => by
    rcases List.mem_cons.mp e with rfl | e
    · exact h _
    · exact lv_mem h e
theorem TS_nn : ∀ (m : Nat), (∀ B, 0 ≤ tT m B) ∧ ∀ B, 0 ≤ tS m B
  | 0 => ⟨fun _ => Int.le_refl _, fun _ => Int.le_refl _⟩
  | m + 1 => by
    obtain ⟨h1, h2⟩ := TS_nn m
    refine ⟨fun B => ?_, fun B => ?_⟩
    · cases B with
      | nil => exact Int.le_refl _
      | cons b bs =>
        rw [T_cons]
        have := sum_nn (xs := lv (tS m) bs) fun x => lv_mem h2
        have := own_01 b
        omega
    · cases B with
      | nil => exact Int.le_refl _
      | cons b bs =>
        rw [S_cons]
        have := (mx_le (d := own b) (xs := lv (tT m) bs)).2
        have := own_01 b
        omega
theorem lv_len {f : List Bool → Int} : ∀ {bs : List Bool}, (lv f bs).length = bs.length
  | [] => rfl
  | b :: bs => by simp [lv, lv_len (bs := bs)]
theorem lv_drop {f : List Bool → Int} : ∀ {bs : List Bool} {k : Nat}, (lv f bs).drop k = lv f (bs.drop k)
  | [], k => by simp [lv]
  | b :: bs, 0 => rfl
  | b :: bs, k + 1 => lv_drop (bs := bs) (k := k)
theorem lv_at {f : List Bool → Int} : ∀ {bs : List Bool} {k : Nat}, k < bs.length → (lv f bs)[k]? = some (f (bs.drop k))
  | [], k, h => by simp at h
  | b :: bs, 0, _ => rfl
  | b :: bs, k + 1, h => lv_at (bs := bs) (k := k) (by simp at h; omega)
def TSf : List Bool → List Int × List Int
  | [] => ([], [])
  | b :: bs => ((own b + (TSf bs).2.sum) :: (TSf bs).1, mx (own b) (TSf bs).1 :: (TSf bs).2)
theorem TSf_len : ∀ {bs : List Bool}, (TSf bs).1.length = bs.length ∧ (TSf bs).2.length = bs.length
  | [] => ⟨rfl, rfl⟩
  | b :: bs => by
    obtain ⟨h1, h2⟩ := TSf_len (bs := bs)
    simp [TSf, h1, h2]
theorem stab : ∀ {bs : List Bool} {m : Nat}, bs.length ≤ m → lv (tT m) bs = (TSf bs).1 ∧ lv (tS m) bs = (TSf bs).2
  | [], m, _ => ⟨rfl, rfl⟩
  | b :: bs, m, h => by
    rw [List.length_cons] at h
    obtain ⟨m, rfl⟩ : ∃ k, m = k + 1 := ⟨m - 1, by omega⟩
    obtain ⟨h1, h2⟩ := stab (bs := bs) (m := m) (by omega)
    obtain ⟨h3, h4⟩ := stab (bs := bs) (m := m + 1) (by omega)
    refine ⟨?_, ?_⟩
    · show tT (m + 1) (b :: bs) :: lv (tT (m + 1)) bs = _
      rw [T_cons, h2, h3]; rfl
    · show tS (m + 1) (b :: bs) :: lv (tS (m + 1)) bs = _
      rw [S_cons, h1, h4]; rfl
theorem TSf_drop : ∀ {bs : List Bool} {k : Nat}, (TSf bs).2.drop k = (TSf (bs.drop k)).2
  | [], k => by simp [TSf]
  | b :: bs, 0 => rfl
  | b :: bs, k + 1 => TSf_drop (bs := bs) (k := k)
/-- what the law and the program count: the level -/
def due (A : List Bool) (n st : Nat) : List Int := own (A.getD st false) :: lv (tS n) (A.drop (st + 1))
theorem due_len {A : List Bool} {n st : Nat} : (due A n st).length = A.length - st - 1 + 1 := by
  unfold due; rw [List.length_cons, lv_len, List.length_drop]; omega
theorem due_eq {A : List Bool} {m n st : Nat} (h : m = n ∨ (A.length ≤ m + 1 ∧ A.length ≤ n + 1)) : due A m st = due A n st := by
  unfold due
  rcases h with rfl | ⟨h1, h2⟩
  · rfl
  · rw [(stab (bs := A.drop (st + 1)) (m := m) (by rw [List.length_drop]; omega)).2, (stab (bs := A.drop (st + 1)) (m := n) (by rw [List.length_drop]; omega)).2]
/-- the level of a bound on words -/
def lvl (L : Nat) : Option Nat → Nat
  | none => L
  | some w => (if L + 1 < w then L + 1 else w) - 1
theorem due_T {A : List Bool} {n st : Nat} (h : st < A.length) : (due A n st).sum = tT (n + 1) (A.drop st) := by
  unfold due
  rw [List.sum_cons, List.drop_eq_getElem_cons h, T_cons]
  rw [List.getD_eq_getElem?_getD, List.getElem?_eq_getElem h]; rfl
def fibP : Nat → Int × Int
  | 0 => (1, 2)
  | n + 1 => ((fibP n).2, (fibP n).1 + (fibP n).2)
def tc (n : Nat) : Int := (fibP n).1
theorem tc_snd (n : Nat) : (fibP n).2 = tc (n + 1) := rfl
theorem tc_add (n : Nat) : tc (n + 2) = tc n + tc (n + 1) := rfl
theorem tc_step : ∀ n, 1 ≤ tc n ∧ tc n < tc (n + 1)
  | 0 => by decide
  | n + 1 => by
    obtain ⟨h1, h2⟩ := tc_step n
    rw [tc_add]
    omega
def prv (k : Nat) : Int := if k = 0 then 1 else tc (k - 1)
theorem prv_add (k : Nat) : prv k + tc k = tc (k + 1) := by
  cases k with
  | zero => decide
  | succ k => rw [tc_add]; rfl
theorem prv_le (k : Nat) : 1 ≤ prv k ∧ prv k ≤ tc k := by
  cases k with
  | zero => decide
  | succ k => exact ⟨(tc_step k).1, Int.le_of_lt (tc_step k).2⟩
theorem free_all : ∀ k : Nat, 1 + (TSf (List.replicate k true)).2.sum = tc k ∧ mx 1 (TSf (List.replicate k true)).1 = prv k
  | 0 => by decide
  | k + 1 => by
    obtain ⟨h1, h2⟩ := free_all k
    rw [List.replicate_succ]
    simp only [TSf, List.sum_cons, mx, show own true = 1 from rfl]
    have h3 := prv_add k
    have h4 := prv_le k
    refine ⟨by rw [h2]; omega, ?_⟩
    rw [h1, h2]
    show _ = tc k
    split <;> omega
theorem free_top : ∀ k : Nat, (TSf (List.replicate k false ++ [true])).2.sum = tc k ∧ mx 0 (TSf (List.replicate k false ++ [true])).1 = prv k
  | 0 => by decide
  | k + 1 => by
    obtain ⟨h1, h2⟩ := free_top k
    rw [List.replicate_succ, List.cons_append]
    simp only [TSf, List.sum_cons, mx, show own false = 0 from rfl]
    have h3 := prv_add k
    have h4 := prv_le k
    refine ⟨by rw [h2]; omega, ?_⟩
    rw [h1, h2]
    show _ = tc k
    split <;> omega
theorem due_all {L st : Nat} (h : st ≤ L) : (due (List.replicate (L + 1) true) L st).sum = tc (L - st) := by
  unfold due
  rw [List.drop_replicate, show L + 1 - (st + 1) = L - st by omega, (stab (m := L) (by rw [List.length_replicate]; omega)).2, List.sum_cons]
  rw [List.getD_eq_getElem?_getD, List.getElem?_replicate, if_pos (by omega)]
  exact (free_all _).1
theorem due_top {L : Nat} (h : 0 < L) : (due (List.replicate L false ++ [true]) L 0).sum = tc (L - 1) := by
  obtain ⟨k, rfl⟩ : ∃ k, L = k + 1 := ⟨L - 1, by omega⟩
  unfold due
  rw [List.replicate_succ, List.cons_append, List.drop_succ_cons, List.drop_zero, (stab (m := k + 1) (by simp)).2, List.sum_cons, (free_top k).1]
  show 0 + tc k = _
  rw [Int.zero_add]; rfl
theorem due_end {A : List Bool} {n st : Nat} (h : A.length = st + 1) : (due A n st).sum = own (A.getD st false) := by
  unfold due
  rw [List.drop_eq_nil_of_le (by omega)]
  simp [lv]
/-! ### givings of words to kinds -/
def dg (many : Nat) : Nat → Nat → List Nat
  | 0, _ => []
  | n + 1, x => (x % many) :: dg many n (x / many)
theorem dg_len {many : Nat} : ∀ {n x : Nat}, (dg many n x).length = n
  | 0, _ => rfl
  | n + 1, x => by simp [dg, dg_len (n := n)]
theorem dg_lt {many : Nat} (h : 0 < many) : ∀ {n x : Nat}, ∀ d ∈ dg many n x, d < many
  | 0, _ => fun d hd => by cases hd
  | n + 1, x => fun d hd => by
    rcases List.mem_cons.mp hd with rfl | hd
    · exact Nat.mod_lt _ h
    · exact dg_lt h (n := n) d hd
theorem dg_of {many : Nat} (h : 0 < many) : ∀ {ds : List Nat}, (∀ d ∈ ds, d < many) → ∃ x, x < many ^ ds.length ∧ dg many ds.length x = ds
  | [], _ => ⟨0, by simp, rfl⟩
  | d :: ds, hd => by
    obtain ⟨x, h1, h2⟩ := dg_of h fun e he => hd e (List.mem_cons_of_mem _ he)
    have h3 := hd d List.mem_cons_self
    refine ⟨d + many * x, ?_, ?_⟩
    · rw [List.length_cons, Nat.pow_succ, Nat.mul_comm _ many]
      have : many * (x + 1) ≤ many * many ^ ds.length := Nat.mul_le_mul_left _ h1
      rw [Nat.mul_add] at this
      omega
    · show ((d + many * x) % many) :: dg many ds.length ((d + many * x) / many) = _
      rw [Nat.add_mul_mod_self_left, Nat.mod_eq_of_lt h3, Nat.add_mul_div_left _ _ h, Nat.div_eq_of_lt h3, Nat.zero_add, h2]
def spread : Nat → List Nat → List Nat
  | _, [] => []
  | k, c :: cs => List.replicate c k ++ spread (k + 1) cs
theorem spread_len : ∀ {k : Nat} {cs : List Nat}, (spread k cs).length = cs.sum
  | _, [] => rfl
  | k, c :: cs => by simp [spread, spread_len (k := k + 1) (cs := cs)]
theorem spread_in : ∀ {k : Nat} {cs : List Nat} {d : Nat}, d ∈ spread k cs → k ≤ d ∧ d < k + cs.length
  | _, [], d, h => by cases h
  | k, c :: cs, d, h => by
    rcases List.mem_append.mp (show d ∈ List.replicate c k ++ spread (k + 1) cs from h) with h | h
    · have := (List.mem_replicate.mp h).2
      rw [this, List.length_cons]; omega
    · have := spread_in h
      rw [List.length_cons]; omega
theorem spread_count : ∀ {k : Nat} {cs : List Nat} {j : Nat}, (spread k cs).count (k + j) = cs.getD j 0
  | _, [], j => by simp [spread]
  | k, c :: cs, j => by
    rw [show spread k (c :: cs) = List.replicate c k ++ spread (k + 1) cs from rfl, List.count_append, List.count_replicate]
    cases j with
    | zero =>
      have : (spread (k + 1) cs).count k = 0 := List.count_eq_zero.mpr fun h => by have := spread_in h; omega
      rw [Nat.add_zero, this]; simp
    | succ j =>
      have := spread_count (k := k + 1) (cs := cs) (j := j)
      rw [show k + 1 + j = k + (j + 1) by omega] at this
      rw [this, if_neg (by simp), Nat.zero_add]; rfl
theorem sum_one : ∀ {m d : Nat}, ((List.range m).map fun k => if k = d then 1 else 0).sum = if d < m then 1 else 0
  | 0, d => by simp
  | m + 1, d => by
    rw [List.range_succ, List.map_append, List.sum_append, sum_one (m := m)]
    simp only [List.map_cons, List.map_nil, List.sum_cons, List.sum_nil]
    split <;> split <;> split <;> omega
theorem sum_add {f g : Nat → Nat} : ∀ {l : List Nat}, (l.map fun k => f k + g k).sum = (l.map f).sum + (l.map g).sum
  | [] => rfl
  | a :: l => by simp [sum_add (l := l)]; omega
theorem count_sum {m : Nat} : ∀ {ds : List Nat}, (∀ d ∈ ds, d < m) → ((List.range m).map fun k => ds.count k).sum = ds.length
  | [], _ => by
    simp only [List.count_nil, List.length_nil]
    induction (List.range m) with
    | nil => rfl
    | cons a l ih => rw [List.map_cons, List.sum_cons, ih]
  | d :: ds, h => by
    have ih := count_sum (m := m) fun e he => h e (List.mem_cons_of_mem _ he)
    have h1 := h d List.mem_cons_self
    have : (fun k => (d :: ds).count k) = fun k => ds.count k + if k = d then 1 else 0 := by
      funext k
      rw [List.count_cons]
      by_cases e : k = d
      · subst e; simp
      · rw [if_neg (fun h => e (eq_of_beq h).symm), if_neg e]
    rw [this, sum_add, ih, sum_one, if_pos h1, List.length_cons]
theorem sum_le : ∀ {l : List Nat} {f g : Nat → Nat}, (∀ k ∈ l, f k ≤ g k) → (l.map f).sum ≤ (l.map g).sum
  | [], _, _, _ => Nat.le_refl _
  | a :: l, f, g, h => by
    have h1 := h a List.mem_cons_self
    have h2 := sum_le (l := l) fun k hk => h k (List.mem_cons_of_mem _ hk)
    simp only [List.map_cons, List.sum_cons]; omega
theorem sum_getD : ∀ {cs : List Nat}, ((List.range cs.length).map fun k => cs.getD k 0).sum = cs.sum
  | [] => rfl
  | c :: cs => by
    rw [List.length_cons, List.range_succ_eq_map, List.map_cons, List.map_map, List.sum_cons, List.sum_cons]
    have := sum_getD (cs := cs)
    show c + (List.map (fun k => cs.getD k 0) (List.range cs.length)).sum = _
    rw [this]
theorem giving {cs : List Nat} {n : Nat} (h0 : 0 < cs.length) : (∃ x, x < cs.length ^ n ∧ ∀ k, k < cs.length → (dg cs.length n x).count k ≤ cs.getD k 0) ↔ n ≤ cs.sum := by
  constructor
  · rintro ⟨x, hx, h⟩
    have h1 := count_sum (m := cs.length) (ds := dg cs.length n x) (dg_lt h0)
    rw [dg_len] at h1
    have h2 := sum_le (l := List.range cs.length) (f := fun k => (dg cs.length n x).count k) (g := fun k => cs.getD k 0) fun k hk => h k (List.mem_range.mp hk)
    rw [h1, sum_getD] at h2
    exact h2
  · intro h
    obtain ⟨x, h1, h2⟩ := dg_of (many := cs.length) h0 (ds := (spread 0 cs).take n) fun d hd => by
      have := spread_in (List.mem_of_mem_take hd); omega
    rw [List.length_take, spread_len, Nat.min_eq_left h] at h1 h2
    refine ⟨x, h1, fun k hk => ?_⟩
    rw [h2]
    have h3 := spread_count (k := 0) (cs := cs) (j := k)
    rw [Nat.zero_add] at h3
    rw [← h3]
    exact List.Sublist.count_le _ (List.take_sublist _ _)
end K35

namespace K35
/-! ### which lots can be told: the givings -/
def caps (B : List Bool) (m : Nat) : List Nat := match B with
  | [] => []
  | b :: bs => (own b).toNat :: (lv (tS m) bs).map Int.toNat
theorem caps_len {B : List Bool} {m : Nat} : (caps B m).length = B.length := by
  cases B with
  | nil => rfl
  | cons b bs => simp [caps, lv_len]
theorem toNat_sum : ∀ {xs : List Int}, (∀ x ∈ xs, 0 ≤ x) → ((xs.map Int.toNat).sum : Int) = xs.sum
  | [], _ => by simp
  | x :: xs, h => by
    have h1 := h x List.mem_cons_self
    have h2 := toNat_sum fun y hy => h y (List.mem_cons_of_mem _ hy)
    rw [List.map_cons, List.sum_cons, List.sum_cons, ← h2]; omega
theorem caps_sum {B : List Bool} {m : Nat} (h : 0 < B.length) : ((caps B m).sum : Int) = tT (m + 1) B := by
  cases B with
  | nil => simp at h
  | cons b bs =>
    have h1 := toNat_sum (xs := lv (tS m) bs) fun x => lv_mem (TS_nn m).2
    have h2 := own_01 b
    rw [T_cons]
    show (((own b).toNat :: (lv (tS m) bs).map Int.toNat).sum : Int) = _
    rw [List.sum_cons, ← h1]; omega
theorem caps_0 {B : List Bool} {m : Nat} : (caps B m).getD 0 0 = (own (B.getD 0 false)).toNat := by
  cases B with
  | nil => rfl
  | cons b bs => rfl
theorem caps_k {B : List Bool} {m k : Nat} (h : 0 < k) (h2 : k < B.length) : (caps B m).getD k 0 = (tS m (B.drop k)).toNat := by
  cases B with
  | nil => simp at h2
  | cons b bs =>
    obtain ⟨k, rfl⟩ : ∃ j, k = j + 1 := ⟨k - 1, by omega⟩
    rw [List.length_cons] at h2
    show ((lv (tS m) bs).map Int.toNat).getD k 0 = _
    rw [List.getD_eq_getElem?_getD, List.getElem?_map, lv_at (by omega)]; rfl
def Good (B : List Bool) (m n x : Nat) : Prop := ∀ k, k < B.length → (dg B.length n x).count k ≤ (caps B m).getD k 0
theorem told_iff {B : List Bool} {m n : Nat} (h : 0 < B.length) : (∃ x, x < B.length ^ n ∧ Good B m n x) ↔ (n : Int) ≤ tT (m + 1) B := by
  have g := giving (cs := caps B m) (n := n) (by rw [caps_len]; exact h)
  rw [caps_len] at g
  unfold Good
  rw [g, ← caps_sum h]; omega
theorem dg_more {c : Nat} (h : 0 < c) : ∀ {n x : Nat}, dg c (n + 1) x = dg c n x ++ [(x / c ^ n) % c]
  | 0, x => by simp [dg]
  | n + 1, x => by
    have ih := dg_more h (n := n) (x := x / c)
    show x % c :: dg c (n + 1) (x / c) = x % c :: dg c n (x / c) ++ _
    rw [ih, Nat.div_div_eq_div_mul, Nat.pow_succ, Nat.mul_comm c]; rfl
theorem asked_iff {b : Bool} {bs : List Bool} {m n : Nat} (h : 1 ≤ n) : (n : Int) ≤ tS (m + 1) (b :: bs) ↔ (n = 1 ∧ b = true) ∨ ∃ k, k < bs.length ∧ (n : Int) ≤ tT m (bs.drop k) := by
  rw [S_cons]
  have up := mx_le (d := own b) (xs := lv (tT m) bs)
  constructor
  · intro hn
    rcases mx_mem (d := own b) (xs := lv (tT m) bs) with e | e
    · rw [e] at hn
      refine .inl ?_
      cases b with
      | false => have : own false = 0 := rfl; omega
      | true => have : own true = 1 := rfl; exact ⟨by omega, rfl⟩
    · obtain ⟨k, hk, e2⟩ := List.getElem_of_mem e
      rw [lv_len] at hk
      refine .inr ⟨k, hk, ?_⟩
      have := lv_at (f := tT m) hk
      rw [List.getElem?_eq_getElem (by rw [lv_len]; exact hk)] at this
      rw [← Option.some.inj this, e2]; exact hn
  · rintro (⟨rfl, rfl⟩ | ⟨k, hk, hn⟩)
    · have := up.2
      have : own true = 1 := rfl
      omega
    · have := up.1 (tT m (bs.drop k)) (List.mem_of_getElem? (lv_at hk))
      omega
end K35

namespace Jv
open PySem PySem.Spec PyProof.Rows L2
section
variable {σ : L2.St} {H : Hp} {te : TE} {tl th : TO} {r : V → Option Int → Option Int → Hp → VK → Prop} {Q : VK} {P : Option Int → Hp → Prop}
theorem r_tSl (h : te σ H fun x H1 => tl σ H1 fun l H2 => th σ H2 fun u H3 => r x l u H3 Q) : tSl r te tl th σ H Q := h
theorem r_noPart (h : P none H) : tNoPart σ H P := h
theorem r_part (h : te σ H fun x H1 => ∃ i, x = .int i ∧ P (some i) H1) : tPart te σ H P := h
theorem r_partI {i : Int} {P : Int → Prop} (h : P i) : ∃ j, V.int i = .int j ∧ P j := ⟨i, rfl, h⟩
end
section
variable {K : PySem.W.Frag} {H H' : Hp} {Q : VK} {a b : Addr} {xs ys : List V} {lo hi : Option Int}
theorem r_slL (h : H a = some (.lst xs)) (q : ∀ p H', H p = none → Same H H' → H' p = some (.lst (cutV xs lo hi)) → Q (.ref p) H') : rSlL K (.ref a) lo hi H Q := ⟨a, xs, rfl, sqL_at h, fun p hp => q p _ hp (same_new hp) upd_same⟩
theorem r_cat (h1 : H a = some (.lst xs)) (h2 : H b = some (.lst ys)) (few : xs.length + ys.length ≤ 1000) (q : ∀ p H', H p = none → Same H H' → H' p = some (.lst (xs ++ ys)) → Q (.ref p) H') : rCat (.ref a) (.ref b) H Q :=
  ⟨a, b, xs, ys, rfl, rfl, h1, h2, small_of few, fun p hp => q p _ hp (same_new hp) upd_same⟩
theorem cut_take {k : Int} (h : 0 ≤ k) : cutV xs none (some k) = xs.take k.toNat := by
  obtain ⟨j, rfl⟩ : ∃ j : Nat, k = j := ⟨k.toNat, by omega⟩
  unfold cutV
  rw [HT.sIx_none, HT.sIx_nat, List.drop_zero, Nat.sub_zero, ← List.take_take, List.take_length]; rfl
theorem cut_drop {k : Int} (h : 0 ≤ k) (h2 : k.toNat ≤ xs.length) : cutV xs (some k) none = xs.drop k.toNat := by
  obtain ⟨j, rfl⟩ : ∃ j : Nat, k = j := ⟨k.toNat, by omega⟩
  unfold cutV
  rw [HT.sIx_none, HT.sIx_nat]
  have e : min j xs.length = j := by simp at h2; omega
  rw [e, List.take_of_length_le (by rw [List.length_drop]; omega)]; rfl
theorem DvAll.take : ∀ {vs : List V} {ds : List PyData} (n : Nat), DvAll K H vs ds → DvAll K H (vs.take n) (ds.take n)
  | _, _, 0, _ => by simp; exact .nil
  | _, _, n + 1, .nil => .nil
  | _, _, n + 1, .cons a b => .cons a (DvAll.take n b)
theorem DvAll.drop : ∀ {vs : List V} {ds : List PyData} (n : Nat), DvAll K H vs ds → DvAll K H (vs.drop n) (ds.drop n)
  | _, _, 0, h => h
  | _, _, n + 1, .nil => .nil
  | _, _, n + 1, .cons _ b => DvAll.drop n b
theorem DvAll.one {v : V} {d : PyData} (h : Dv K H v d) : DvAll K H [v] [d] := .cons h .nil
end
end Jv

namespace Jv
open PySem PySem.Spec PyProof.Rows L2
/-! ### comprehensions whose items are numbers or new lists -/
section
variable {K : PySem.W.Frag} {σ : L2.St} {H : Hp} {te : TE} {Q : VK} {j a b : Nat} {xs : List V}
theorem lcEnNW {J : It} {G : Hp → Prop} (w : Walk J xs.length G (YPair (fun i => some (.int (i : Nat))) (fun i => xs[i]?))) (hG : ∀ H', Same H H' → G H') (F : Nat → V) (few : xs.length ≤ 900)
    (hw : ∀ x y, wipe (((wipe σ [a, b]).set a (some x)).set b (some y)) [a, b] = wipe σ [a, b])
    (hs : ∀ i v H1, xs[i]? = some v → Same H H1 → ∀ P : VK, (∀ H2, Same H1 H2 → P (F i) H2) → te (((wipe σ [a, b]).set a (some (.int (i : Nat)))).set b (some v)) H1 P)
    (hd : ∀ D H1, Same H H1 → H D = none → H1 D = some (.lst ((List.range xs.length).map F)) → Q (.ref D) H1) : ∀ D, H D = none → ∃ W : Nat → Nat → Hp → Prop, (∃ m, W 0 m (upd H D (.lst []))) ∧ ∀ i m H, W i m H →
      (J.stop i H ∧ Q (.ref D) H) ∨ (J.go i H ∧ ∃ Nx : Hp → Prop, (∀ H', Nx H' → ∃ m', m' < m ∧ W (i + 1) m' H') ∧ ∀ x H', J.yld i H x H' → gTup K 2 (gCons (gName a) (gCons (gName b) gNil)) x (wipe σ [a, b]) H' fun σ2 H2 => wipe σ2 [a, b] = wipe σ [a, b] ∧ tYes σ2 H2 fun b H3 =>
        if b = true then te σ2 H3 fun y H4 => ∃ acc, H4 D = some (.lst acc) ∧ acc.length < sizeLine ∧ Nx (upd H4 D (.lst (acc ++ [y]))) else Nx H3) := by
  intro D hD
  refine lc_it w (fun i H1 => Same H H1 ∧ H1 D = some (.lst ((List.range i).map F))) ⟨same_new hD, upd_same⟩ (fun i H1 _ h => hG H1 h.1) ?_ ?_
  · rintro i x H1 H2 hi ⟨s1, e1⟩ ⟨T, y, z, rfl, hT, rfl, e2, e3⟩
    cases e2
    have sN := same_new (u := .tup [.int (i : Nat), z]) hT
    refine ⟨T, _, rfl, sqT_at upd_same, rfl, _, _, rfl, _, _, rfl, rfl, hw _ _, r_yes (r_ift ?_)⟩
    refine hs i z _ e3 (s1.trans sN) _ fun H3 s3 => ⟨_, s3 _ _ (sN _ _ e1), small_lt (by rw [List.length_map, List.length_range]; omega), fun c o e => ?_, ?_⟩
    · exact kpO (s3 _ _ (sN _ _ (s1 c o e))) (ne_of_none e hD)
    · rw [upd_same, List.range_succ, List.map_append]; rfl
  · rintro H1 ⟨s1, e1⟩
    exact hd D H1 s1 hD e1
theorem lcEnN {ta : TA} {t : Addr} (hit : ∀ P : List V → Hp → Prop, P [.ref t] H → ta σ H P) (ht : SqL K H t xs) (F : Nat → V) (few : xs.length ≤ 900)
    (hw : ∀ x y, wipe (((wipe σ [a, b]).set a (some x)).set b (some y)) [a, b] = wipe σ [a, b])
    (hs : ∀ i v H1, xs[i]? = some v → Same H H1 → ∀ P : VK, (∀ H2, Same H1 H2 → P (F i) H2) → te (((wipe σ [a, b]).set a (some (.int (i : Nat)))).set b (some v)) H1 P)
    (hd : ∀ D H1, Same H H1 → H D = none → H1 D = some (.lst ((List.range xs.length).map F)) → Q (.ref D) H1) : tLc (iEnum K ta) (gTup K 2 (gCons (gName a) (gCons (gName b) gNil))) tYes te [a, b] σ H Q :=
  hit _ ⟨t, xs, rfl, ht, lcEnNW walk_enum (fun H' s => s.seq ht) F few hw hs hd⟩
theorem lcFnW {J : It} {G : Hp → Prop} {Y : Nat → Hp → V → Hp → Prop} {n : Nat} {Fx : Nat → V → Prop} (w : Walk J n G Y) (hG : ∀ H', Same H H' → G H') (hy : ∀ i H x H', i < n → Y i H x H' → H' = H ∧ Fx i x) (F : Nat → V) (few : n ≤ 900)
    (hs : ∀ i v H1, i < n → Fx i v → Same H H1 → ∀ P : VK, (∀ H2, Same H1 H2 → P (F i) H2) → te ((σ.set j none).set j (some v)) H1 P)
    (hd : ∀ D H1, Same H H1 → H D = none → H1 D = some (.lst ((List.range n).map F)) → Q (.ref D) H1) : ∀ D, H D = none → ∃ W : Nat → Nat → Hp → Prop, (∃ m, W 0 m (upd H D (.lst []))) ∧ ∀ i m H, W i m H →
      (J.stop i H ∧ Q (.ref D) H) ∨ (J.go i H ∧ ∃ Nx : Hp → Prop, (∀ H', Nx H' → ∃ m', m' < m ∧ W (i + 1) m' H') ∧ ∀ x H', J.yld i H x H' → gName j x (wipe σ [j]) H' fun σ2 H2 => wipe σ2 [j] = wipe σ [j] ∧ tYes σ2 H2 fun b H3 =>
        if b = true then te σ2 H3 fun y H4 => ∃ acc, H4 D = some (.lst acc) ∧ acc.length < sizeLine ∧ Nx (upd H4 D (.lst (acc ++ [y]))) else Nx H3) := by
  intro D hD
  refine lc_it w (fun i H1 => Same H H1 ∧ H1 D = some (.lst ((List.range i).map F))) ⟨same_new hD, upd_same⟩ (fun i H1 _ h => hG H1 h.1) ?_ ?_
  · rintro i x H1 H2 hi ⟨s1, e1⟩ hx
    obtain ⟨rfl, hf⟩ := hy i _ _ _ hi hx
    refine ⟨wipe1, r_yes (r_ift ?_)⟩
    refine hs i x _ hi hf s1 _ fun H3 s3 => ⟨_, s3 _ _ e1, small_lt (by rw [List.length_map, List.length_range]; omega), fun c o e => ?_, ?_⟩
    · exact kpO (s3 _ _ (s1 c o e)) (ne_of_none e hD)
    · rw [upd_same, List.range_succ, List.map_append]; rfl
  · rintro H1 ⟨s1, e1⟩
    exact hd D H1 s1 hD e1
/-- over a range -/
theorem lcFn {ta : TA} {n : Nat} {k : Int} (hit : ∀ P : List V → Hp → Prop, P [.int k] H → ta σ H P) (hk : k = n) (F : Nat → V) (few : n ≤ 900)
    (hs : ∀ (i : Nat) (H1 : Hp), i < n → Same H H1 → ∀ P : VK, (∀ H2, Same H1 H2 → P (F i) H2) → te ((σ.set j none).set j (some (.int (i : Nat)))) H1 P)
    (hd : ∀ D H1, Same H H1 → H D = none → H1 D = some (.lst ((List.range n).map F)) → Q (.ref D) H1) : tLc (iRng1 ta) (gName j) tYes te [j] σ H Q := by
  subst hk
  exact hit _ ⟨_, rfl, by omega, by omega, lcFnW (walk_range (lo := 0) (n := ((n : Nat) : Int).toNat)) (fun _ _ => trivial) yfn F (by omega) (fun i v H1 hi hv s P hP => by subst hv; rw [Int.zero_add]; exact hs i H1 (by omega) s P hP) fun D H1 s hD e => hd D H1 s hD (by rw [Int.toNat_natCast] at e; exact e)⟩
/-- over a list that a name holds -/
theorem lcFl {i : Nat} {t : Addr} (hv : σ[i]? = some (some (.ref t))) (ht : SqL K H t xs) (F : Nat → V) (few : xs.length ≤ 900)
    (hs : ∀ i v H1, xs[i]? = some v → Same H H1 → ∀ P : VK, (∀ H2, Same H1 H2 → P (F i) H2) → te ((σ.set j none).set j (some v)) H1 P)
    (hd : ∀ D H1, Same H H1 → H D = none → H1 D = some (.lst ((List.range xs.length).map F)) → Q (.ref D) H1) : tLc (iList K (tVar i)) (gName j) tYes te [j] σ H Q :=
  ⟨_, hv, t, rfl, ⟨xs, ht⟩, lcFnW walk_list (fun H' s => s.seq ht) yat F few (fun i v H1 _ hv s P hP => hs i v H1 hv s P hP) hd⟩
/-- new lists, one for each turn of a range -/
theorem lcOwnR {ta : TA} {n : Nat} {k : Int} (hit : ∀ P : List V → Hp → Prop, P [.int k] H → ta σ H P) (hk : k = n) (F : Nat → List V) (few : n ≤ 900)
    (hs : ∀ (i : Nat) D (H1 : Hp), i < n → Same H H1 → H D = none → ∀ P : VK, (∀ t H2, H1 t = none → Same H1 H2 → H2 t = some (.lst (F i)) → P (.ref t) H2) → te ((σ.set j none).set j (some (.int (i : Nat)))) H1 P)
    (hd : ∀ D (As : List Addr) H1, Same H H1 → H D = none → As.length = n → As.Nodup → D ∉ As → (∀ b ∈ As, H b = none) → H1 D = some (.lst (As.map V.ref)) → (∀ (k : Nat) b, As[k]? = some b → H1 b = some (.lst (F k))) → Q (.ref D) H1) : tLc (iRng1 ta) (gName j) tYes te [j] σ H Q := by
  subst hk
  exact hit _ ⟨_, rfl, by omega, by omega, lcOwnD (walk_range (lo := 0) (n := ((n : Nat) : Int).toNat)) (fun _ _ => trivial) yfn F (by omega) (fun i v D H1 hi hv s hD P hP => by subst hv; rw [Int.zero_add]; exact hs i D H1 (by omega) s hD P hP) fun D As H1 s hD e => hd D As H1 s hD (by rw [Int.toNat_natCast] at e; exact e)⟩
theorem inV_ints {z : Int} : ∀ {ns : List Int}, inV (.int z) (ns.map V.int) = decide (z ∈ ns)
  | [] => by simp [inV]
  | a :: r => by
    have ih := inV_ints (z := z) (ns := r)
    unfold inV at ih ⊢
    rw [List.map_cons, List.any_cons, ih, eqV_ints]
    by_cases h : a = z
    · subst h; simp
    · have h2 : ¬ z = a := fun e => h e.symm
      simp [h, h2]
theorem flat_ints {ns : List Int} : (ns.map V.int).all flatV = true := by
  rw [List.all_map, List.all_eq_true]; exact fun z _ => rfl
theorem r_in {x : V} {z : Int} {ns : List Int} (h : Sk K H x (ns.map V.int)) (q : Q (.bl (decide (z ∈ ns))) H) : rIn K false (.int z) x H Q := by
  obtain ⟨a, rfl, h⟩ := h
  refine ⟨a, ns.map V.int, rfl, h, rfl, flat_ints, ?_⟩
  rw [inV_ints]; exact q
end
end Jv

namespace K35
open PySem PySem.Spec PyProof.Rows L2
/-! ### what the program's defs promise -/
theorem own_def (b : Bool) : own b = if b = true then 1 else 0 := rfl
/-- good ends: which are allowed -/
def EndsOf (d : PyData) (L : Nat) (A : List Bool) : Prop := (d = .none ∧ A = List.replicate (L + 1) true) ∨
  ∃ ns : List Int, Jv.seqD d = some (ns.map PyData.int) ∧ (∀ z ∈ ns, 0 ≤ z ∧ z ≤ L) ∧ ns.length ≤ 200 ∧ A = (List.range (L + 1)).map fun k : Nat => decide ((k : Int) ∈ ns)
theorem EndsOf.len {d : PyData} {L : Nat} {A : List Bool} (h : EndsOf d L A) : A.length = L + 1 := by
  rcases h with ⟨_, rfl⟩ | ⟨_, _, _, _, rfl⟩ <;> simp
def BadE (d : PyData) (L : Int) : Prop := d ≠ .none ∧ ∀ ds, Jv.seqD d = some ds → ds.length ≤ 200 ∧ ds.all (fun e => Jv.wholeD e (.int 0) (.int L)) = false
def WordsOf (d : PyData) (L m : Nat) : Prop := (d = .none ∧ m = L + 1) ∨ ∃ w : Int, d = .int w ∧ 1 ≤ w ∧ (m : Int) = if (L : Int) + 1 < w then (L : Int) + 1 else w
def BadW (d : PyData) : Prop := d ≠ .none ∧ Jv.wholeD d (.int 1) .non = false
theorem WordsOf.pos {d : PyData} {L m : Nat} (h : WordsOf d L m) : 1 ≤ m ∧ m ≤ L + 1 := by
  rcases h with ⟨_, rfl⟩ | ⟨w, _, h1, h2⟩
  · omega
  · split at h2 <;> omega
/-- what told_split and told_within answer -/
def Asked (K : PySem.W.Frag) (T : Tx) (H : Hp) (vl ve vw vd : V) (E : XK) (good : List Int → Prop) : Prop :=
  ∃ dl de dw dd, Jv.Dv K H vl dl ∧ Jv.Dw K H ve de ∧ Jv.Dv K H vw dw ∧ Jv.Dv K H vd dd ∧
    ((Jv.wholeD dl (.int 0) (.int 30) = false ∧ ∀ H', Same H H' → E (.ref T.C_BadLadder) none H') ∨ ∃ L : Nat, dl = .int L ∧ L ≤ 30 ∧
      ((BadE de L ∧ ∀ H', Same H H' → E (.ref T.C_BadEnds) none H') ∨ ∃ A, EndsOf de L A ∧
        ((BadW dw ∧ ∀ H', Same H H' → E (.ref T.C_BadWords) none H') ∨ ∃ m, WordsOf dw L m ∧
          ((Jv.wholeD dd (.int 0) (.int L) = false ∧ ∀ H', Same H H' → E (.ref T.C_BadEnd) none H') ∨ ∃ st : Nat, dd = .int st ∧ st ≤ L ∧ good (due A (m - 1) st)))))
def sp_check_ladder (K : PySem.W.Frag) (C : Addr) : Sp := fun vs H Q E => ∃ x d m, vs = [x, .int m] ∧ Jv.Dv K H x d ∧
  ((Jv.wholeD d (.int 0) (.int m) = true ∧ Q x H) ∨ (Jv.wholeD d (.int 0) (.int m) = false ∧ ∀ H', Same H H' → E (.ref C) none H'))
def sp_told_count (K : PySem.W.Frag) : Sp := fun vs H Q E => ∃ n : Nat, vs = [.int n] ∧ n ≤ 200 ∧ ∀ H', Same H H' → Q (.int (tc n)) H'
def sp_is_sequence (K : PySem.W.Frag) : Sp := fun vs H Q _ => ∃ x d, vs = [x] ∧ Jv.Dw K H x d ∧ ∀ H', Same H H' → Q (.bl (Jv.seqD d).isSome) H'
def sp_allowed_ends (K : PySem.W.Frag) (C : Addr) : Sp := fun vs H Q E => ∃ (L : Nat) (x : V) (d : PyData), vs = [.int L, x] ∧ L ≤ 30 ∧ Jv.Dw K H x d ∧
  ((BadE d L ∧ ∀ H', Same H H' → E (.ref C) none H') ∨ ∃ A, EndsOf d L A ∧ ∀ a H', Same H H' → H a = none → H' a = some (.lst (A.map fun b => V.int (own b))) → Q (.ref a) H')
def sp_words_left (K : PySem.W.Frag) (C : Addr) : Sp := fun vs H Q E => ∃ (L : Nat) (x : V) (d : PyData), vs = [.int L, x] ∧ L ≤ 30 ∧ Jv.Dv K H x d ∧
  ((BadW d ∧ ∀ H', Same H H' → E (.ref C) none H') ∨ ∃ m, WordsOf d L m ∧ Q (.int (m : Nat)) H)
theorem whole_yes {n m : Nat} (h : n ≤ m) : Jv.wholeD (.int n) (.int 0) (.int m) = true := by
  simp [Jv.wholeD, Jv.loOk, Jv.hiOk]; omega
theorem whole_at {L : Nat} {z : Int} (h : 0 ≤ z ∧ z ≤ L) : Jv.wholeD (.int z) (.int 0) (.int L) = true := by
  simp [Jv.wholeD, Jv.loOk, Jv.hiOk]; omega
section
variable {P : Program} {w : World} {K : PySem.W.Frag} {mg : Str → Option Value} {base : Heap}
theorem ok_is_whole (T : Tx) (O : Ok K mg T) : FnOk P w K mg base CX0 1 T.f_is_whole T.d_is_whole ["thing", "low", "high"] (fun vs H Q _ => ∃ x d lo hi, vs = [x, lo, hi] ∧ Jv.Dv K H x d ∧ Jv.Bd lo ∧ Jv.Bd hi ∧ Q (.bl (Jv.wholeV x lo hi)) H) := by
  refine O.F_is_whole.ok sc_is_whole (fun vs H Q E h => by obtain ⟨_, _, _, _, rfl, _⟩ := h; rfl) (fun cdv A outer s H vs Q E hr h => ?_)
  obtain ⟨x, d, lo, hi, rfl, hx, hlo, hhi, q⟩ := h
  refine ⟨_, (pss_cons (ps_if (PW.pt (pw_or (pt_val (pe_callB (r := rIsi K) call_isi (by rfl) O.z_isinstance (by decide +kernel) (pa_cons (pv 0) (pa_cons (pe_bltn (v := .ty "bool") (by rfl) O.z_bool (by decide +kernel) rfl) pa_nil)))) (pw_or1 (pt_not (pt_val (pe_callB (r := rIsi K) call_isi (by rfl) O.z_isinstance (by decide +kernel) (pa_cons (pv 0) (pa_cons (pe_bltn (v := .ty "int") (by rfl) O.z_int (by decide +kernel) rfl) pa_nil)))))))) (pss_one (ps_ret pe_bl)) pss_nil)
  (pss_cons (ps_if (PW.pt (pw_and (pt_cmpR op_notN (pv 1) pe_non (nomark _)) (pw_and1 (pt_cmpR op_lt (pv 0) (pv 1) (nomark _))))) (pss_one (ps_ret pe_bl)) pss_nil)
  (pss_one (ps_ret (pe_or (pe_cmpR op_isN (pv 2) pe_non (nomark _)) (pe_one (pe_cmpR op_le (pv 0) (pv 2) (nomark _)))))))), ?_⟩
  walk_at "r"
  have hx2 := hx
  cases hx2 with
  | int i =>
    rcases hlo with rfl | ⟨a, rfl⟩
    · rcases hhi with rfl | ⟨b, rfl⟩ <;> walk_at "r" <;> exact q
    · by_cases h : i < a
      · rw [Jv.wholeV_lo0 h] at q
        walk_at "rr" <;> exact q
      · rw [Jv.wholeV_lo1 h] at q
        rcases hhi with rfl | ⟨b, rfl⟩ <;> walk_at "rr" <;> exact q
  | _ => walk_at "r"; exact q
theorem ok_is_sequence (T : Tx) (O : Ok K mg T) : FnOk P w K mg base CX0 1 T.f_is_sequence T.d_is_sequence ["thing"] (sp_is_sequence K) := by
  refine O.F_is_sequence.ok sc_is_sequence (fun vs H Q E h => by obtain ⟨_, _, rfl, _⟩ := h; rfl) (fun cdv A outer s H vs Q E hr h => ?_)
  obtain ⟨x, d, rfl, hx, q⟩ := h
  refine ⟨_, (pss_one (ps_ret (pe_callB (r := rIsiT K) call_isiT (by rfl) O.z_isinstance (by decide +kernel) (pa_cons (pv 0) (pa_cons (pe_tup (pa_cons (pe_bltn (v := .ty "list") (by rfl) O.z_list (by decide +kernel) rfl) (pa_cons (pe_bltn (v := .ty "tuple") (by rfl) O.z_tuple (by decide +kernel) rfl) pa_nil))) pa_nil))))), ?_⟩
  walk_at "r"
  intro p hp
  refine Jv.w_isS upd_same (hx.same (Jv.same_new hp)) ?_
  exact q _ (Jv.same_new hp)
theorem ok_check_ladder (T : Tx) (O : Ok K mg T) : FnOk P w K mg base (L2.CX P w) 2 T.f_check_ladder T.d_check_ladder ["ladder", "most"] (sp_check_ladder K T.C_BadLadder) := by
  refine FunD.ok O.F_check_ladder sc_check_ladder (fun vs H Q E h => by obtain ⟨_, _, _, rfl, _⟩ := h; rfl) (fun cdv A outer s H vs Q E hr h => ?_)
  obtain ⟨x, d, m, rfl, hx, qq⟩ := h
  refine ⟨_, (pss_cons (ps_if (pt_not (pt_val (pe_call (ok_is_whole T O) (hr.mono (by decide)) (by rfl) O.m_is_whole O.F_is_whole.kp O.b_is_whole .nil pass0 (pa_cons (pv 0) (pa_cons pe_int (pa_cons (pv 1) pa_nil)))))) (pss_one (ps_raise rfl (takes_of rfl rfl rfl rfl) (Jv.pmk_own0 PySem.F.excBase_ValueError O.e_BadLadder.x O.m_BadLadder O.e_BadLadder.k (O.e_BadLadder.raises) (by rfl)))) pss_nil)
  (pss_one (ps_ret (pv 0)))), ?_⟩
  walk_at "r"
  refine ⟨x, d, .int 0, .int m, rfl, hx, .inr ⟨_, rfl⟩, .inr ⟨_, rfl⟩, ?_⟩
  rw [hx.whole]
  rcases qq with ⟨e, k⟩ | ⟨e, k⟩
  · rw [e]
    walk_at "r"
    exact k
  · rw [e]
    walk_at "r"
    exact k _ (Same.refl _)
theorem ok_told_count (T : Tx) (O : Ok K mg T) : FnOk P w K mg base (L2.CX P w) 3 T.f_told_count T.d_told_count ["ladder"] (sp_told_count K) := by
  refine O.F_told_count.okX sc_told_count (fun vs H Q E h => by obtain ⟨_, rfl, _⟩ := h; rfl) (fun cdv A outer s H vs Q E hr h => ?_)
  obtain ⟨n, rfl, hn, k⟩ := h
  refine ⟨_, (pss_cons (ps_expr (pe_callS (ok_check_ladder T O) (hr.mono (by decide)) (by rfl) O.m_check_ladder O.F_check_ladder.kp O.b_check_ladder (fun σ => passAt (takes_of rfl rfl rfl rfl) σ) (pa_cons (pv 0) (pa_cons (pe_glob (v := .int (200)) (by rfl) O.c_COUNT_LADDER_MOST ⟨_, rfl⟩) pa_nil))))
  (pss_cons (ps_asg (pe_tup (pa_cons pe_int (pa_cons pe_int pa_nil))) (pg_tup rfl (pgs_cons (pg_name (i := 1) sc_told_count.nd rfl (Or.inl rfl)) (pgs_cons (pg_name (i := 2) sc_told_count.nd rfl (Or.inl rfl)) pgs_nil))))
  (pss_cons (ps_for (passes_of rfl) rfl (pi_range1 (by rfl) O.z_range (pa_cons (pv 0) pa_nil)) (pg_name (i := 3) sc_told_count.nd rfl (Or.inl rfl)) (pss_one (ps_par (i := 1) (j := 2) rfl sc_told_count.nd rfl rfl (by decide) rfl rfl (pa_cons (pv 2) (pa_cons (pe_op op_add (pv 1) (pv 2)) pa_nil)) rfl)))
  (pss_one (ps_ret (pv 1)))))), ?_⟩
  walk_at "r"
  refine ⟨_, .int n, 200, rfl, .int _, .inl ⟨whole_yes hn, ?_⟩⟩
  walk_at "r"
  intro p hp
  refine Jv.r_gtup (Jv.sqT_at upd_same) rfl ?_
  walk_at "r"
  refine ⟨(n : Int), rfl, by omega, by omega, ?_⟩
  refine for_range (lo := 0) (n := ((n : Int)).toNat) (fun i σ H1 => ∃ y3, σ = [some (.int n), some (.int (fibP i).1), some (.int (fibP i).2), y3] ∧ Same H H1) ⟨_, rfl, Jv.same_new hp⟩ ?_ ?_
  · rintro i σ H1 hi ⟨y3, rfl, s1⟩
    walk_at "r"
    unfold tPar
    walk_at "r"
    exact ⟨_, _, rfl, _, rfl, s1⟩
  · rintro σ H1 ⟨y3, rfl, s1⟩
    walk_at "r"
    exact k _ s1
theorem ok_words_left (T : Tx) (O : Ok K mg T) : FnOk P w K mg base (L2.CX P w) 2 T.f_words_left T.d_words_left ["ladder", "words"] (sp_words_left K T.C_BadWords) := by
  refine O.F_words_left.okX sc_words_left (fun vs H Q E h => by obtain ⟨_, _, _, rfl, _⟩ := h; rfl) (fun cdv A outer s H vs Q E hr h => ?_)
  obtain ⟨L, x, d, rfl, hL, hx, qq⟩ := h
  refine ⟨_, (pss_cons (ps_if (PW.pt (pw_and (pt_cmpR op_notN (pv 1) pe_non (nomark _)) (pw_and1 (pt_not (pt_val (pe_call (ok_is_whole T O) (hr.mono (by decide)) (by rfl) O.m_is_whole O.F_is_whole.kp O.b1_is_whole.2 O.b1_is_whole.1 pass0 (pa_cons (pv 1) (pa_cons pe_int pa_nil)))))))) (pss_one (ps_raise rfl (takes_of rfl rfl rfl rfl) (Jv.pmk_own0 PySem.F.excBase_ValueError O.e_BadWords.x O.m_BadWords O.e_BadWords.k (O.e_BadWords.raises) (by rfl)))) pss_nil)
  (pss_one (ps_ret (pe_ifExp (pt_cmpR op_isN (pv 1) pe_non (nomark _)) (pe_op op_add (pv 0) pe_int) (pe_callB (r := Jv.rMin2) (call_min2 rfl) (by rfl) O.z_min (by decide +kernel) (pa_cons (pv 1) (pa_cons (pe_op op_add (pv 0) pe_int) pa_nil))))))), ?_⟩
  walk_at "r"
  rcases qq with ⟨⟨nn, e⟩, k⟩ | ⟨m, hm, k⟩
  · have nx : x ≠ .non := fun z => by subst z; cases hx; exact nn rfl
    rw [decide_eq_false nx]
    walk_at "r"
    refine ⟨x, d, .int 1, .non, rfl, hx, .inr ⟨_, rfl⟩, .inl rfl, ?_⟩
    rw [hx.whole, e]
    walk_at "r"
    exact k _ (Same.refl _)
  · rcases hm with ⟨rfl, rfl⟩ | ⟨z, rfl, h1, h2⟩
    · cases hx
      walk_at "r"
      exact k
    · cases hx
      walk_at "r"
      refine ⟨_, _, .int 1, .non, rfl, .int z, .inr ⟨_, rfl⟩, .inl rfl, ?_⟩
      rw [(Jv.Dv.int z : Jv.Dv K H _ _).whole, show Jv.wholeD (.int z) (.int 1) .non = true by simp [Jv.wholeD, Jv.loOk, Jv.hiOk, h1]]
      walk_at "r"
      rw [← h2]
      exact k
theorem ok_allowed_ends (T : Tx) (O : Ok K mg T) : FnOk P w K mg base (L2.CX P w) 2 T.f_allowed_ends T.d_allowed_ends ["ladder", "ends"] (sp_allowed_ends K T.C_BadEnds) := by
  refine O.F_allowed_ends.okX sc_allowed_ends (fun vs H Q E h => by obtain ⟨_, _, _, rfl, _⟩ := h; rfl) (fun cdv A outer s H vs Q E hr h => ?_)
  obtain ⟨L, x, d, rfl, hL, hx, qq⟩ := h
  refine ⟨_, (pss_cons (ps_if (pt_cmpR op_isN (pv 1) pe_non (nomark _)) (pss_one (ps_ret (pe_op op_rep (pe_lst (pa_cons pe_int pa_nil)) (pe_op op_add (pv 0) pe_int)))) pss_nil)
  (pss_cons (ps_if (PW.pt (pw_or (pt_not (pt_val (pe_call (ok_is_sequence T O) (hr.mono (by decide)) (by rfl) O.m_is_sequence O.F_is_sequence.kp O.b_is_sequence .nil pass0 (pa_cons (pv 1) pa_nil)))) (pw_or1 (pt_not (pt_val (pe_callB (r := rAll K) (cr_all rfl) (by rfl) O.z_all (by decide +kernel) (pa_cons (pe_lc (own := [("end", 2)]) (by rfl) sc_allowed_ends.nd (Jv.piOr (show PI _ _ _ (iList K _) from pi_list (pv 1)) (show PI _ _ _ (iTup K _) from pi_tup (pv 1))) (blkOk_by (own := [("end", 2)]) (N := ["ladder", "ends", "end"]) (sc := defScope s_allowed_ends) (scope := ({ kind := .function, names := [(".0", .local), ("end", .local), ("is_whole", .globalImplicit), ("ladder", .free)], isGenerator := false, isCoroutine := false } : Scope)) (by decide +kernel)) (fun _ _ _ _ _ => (pg_name (i := 2) sc_allowed_ends.nd rfl (Or.inl rfl))) (fun _ _ _ _ _ => pts_nil) (fun _ _ _ _ _ => (pe_call (ok_is_whole T O) (hr.mono (by decide)) (by rfl) O.m_is_whole O.F_is_whole.kp O.b_is_whole .nil pass0 (pa_cons (pv 2) (pa_cons pe_int (pa_cons (pv 0) pa_nil)))))) pa_nil))))))) (pss_one (ps_raise rfl (takes_of rfl rfl rfl rfl) (Jv.pmk_own0 PySem.F.excBase_ValueError O.e_BadEnds.x O.m_BadEnds O.e_BadEnds.k (O.e_BadEnds.raises) (by rfl)))) pss_nil)
  (pss_one (ps_ret (pe_lc (own := [("end", 2)]) (by rfl) sc_allowed_ends.nd (pi_range1 (by rfl) O.z_range (pa_cons (pe_op op_add (pv 0) pe_int) pa_nil)) (blkOk_by (own := [("end", 2)]) (N := ["ladder", "ends", "end"]) (sc := defScope s_allowed_ends) (scope := ({ kind := .function, names := [(".0", .local), ("end", .local), ("ends", .free)], isGenerator := false, isCoroutine := false } : Scope)) (by decide +kernel)) (fun _ _ _ _ _ => (pg_name (i := 2) sc_allowed_ends.nd rfl (Or.inl rfl))) (fun _ _ _ _ _ => pts_nil) (fun _ _ _ _ _ => (pe_ifExp (pt_cmpR (r := rIn K false) op_in_seq (pv 2) (pv 1) rfl) pe_int pe_int))))))), ?_⟩
  walk_at "r"
  by_cases nn : d = .none
  · subst nn
    rcases qq with ⟨⟨z, _⟩, _⟩ | ⟨A, hA, k⟩
    · exact absurd rfl z
    · have ex : x = .non := by
        cases hx with
        | dv h => cases h; rfl
      subst ex
      rcases hA with ⟨_, rfl⟩ | ⟨ns, z, _⟩
      · walk_at "r"
        intro p hp
        walk_at "r"
        refine ⟨p, _, _, rfl, rfl, upd_same, by omega, by omega, Jv.small_of (by simp; omega), fun p2 hp2 => ?_⟩
        refine k p2 _ ((Jv.same_new hp).trans (Jv.same_new hp2)) (Same.free (Jv.same_new hp) hp2) ?_
        rw [upd_same]
        congr 2
        rw [List.map_replicate, show ((L : Int) + 1).toNat = L + 1 by omega]
        induction (L + 1) with
        | zero => rfl
        | succ n ih => rw [List.replicate_succ, List.flatten_cons, ih, List.replicate_succ]; rfl
      · cases z
  · have nx : x ≠ .non := fun z => by
      subst z
      cases hx with
      | dv h => cases h; exact nn rfl
    rw [decide_eq_false nx]
    walk_at "r"
    refine ⟨x, d, rfl, hx, fun H1 s1 => ?_⟩
    have hx1 := hx.same s1
    cases e : Jv.seqD d with
    | none =>
      walk_at "r"
      rcases qq with ⟨_, k⟩ | ⟨A, hA, k⟩
      · exact k _ s1
      · rcases hA with ⟨z, _⟩ | ⟨ns, z, _⟩
        · exact absurd z nn
        · rw [e] at z; cases z
    | some ds =>
      obtain ⟨xs, sk, al⟩ := (hx1.seq e).sk e
      have len := al.len
      have few : ds.length ≤ 200 := by
        rcases qq with ⟨⟨_, b⟩, k⟩ | ⟨A, ⟨z, _⟩ | ⟨ns, z, _, h2, _⟩, k⟩
        · exact (b ds e).1
        · exact absurd z nn
        · rw [e] at z; cases z; simpa using h2
      walk_at "r"
      refine Jv.lcK (K := K) (i := 1) (j := 2) (by rfl) sk (fun v => .bl (Jv.wholeV v (.int 0) (.int L))) (by omega) (fun v H2 hv s2 PP hP => ?_) (fun D H2 s2 hD eD => ?_)
      · obtain ⟨dd, _, hd⟩ := al.mem hv
        walk_at "r"
        exact ⟨v, dd, .int 0, .int L, rfl, hd.same s2, .inr ⟨_, rfl⟩, .inr ⟨_, rfl⟩, hP _ (Same.refl _)⟩
      · walk_at "r"
        refine ⟨D, xs.map fun v => Jv.wholeV v (.int 0) (.int L), rfl, Jv.sqL_at (by rw [eD, List.map_map]; rfl), ?_⟩
        have ea : (xs.map fun v => Jv.wholeV v (.int 0) (.int L)).all id = ds.all fun e => Jv.wholeD e (.int 0) (.int L) := by
          rw [List.all_map]
          exact al.all fun v d h => h.whole
        rw [ea]
        rcases qq with ⟨⟨_, b⟩, k⟩ | ⟨A, ⟨z, _⟩ | ⟨ns, z, h1, h2, rfl⟩, k⟩
        · rw [(b ds e).2]
          walk_at "r"
          exact k _ (s1.trans s2)
        · exact absurd z nn
        · rw [e] at z; cases z
          rw [show ((ns.map PyData.int).all fun e => Jv.wholeD e (.int 0) (.int L)) = true by
            rw [List.all_map, List.all_eq_true]; exact fun z hz => whole_at (h1 z hz)]
          walk_at "r"
          obtain rfl := Jv.dv_intsV al
          have sk2 := sk.same s2
          refine Jv.lcFn (n := L + 1) (fun PP hP => by walk_at "r"; exact hP) (by omega) (fun i => V.int (own (decide ((i : Int) ∈ ns)))) (by omega) (fun i H3 hi s3 PP hP => ?_) (fun D2 H3 s3 hD2 e3 => ?_)
          · walk_at "r"
            refine Jv.r_in (sk2.same s3) ?_
            walk_at "r"
            have hP := hP _ (Same.refl _)
            unfold own at hP
            by_cases hm : (i : Int) ∈ ns
            · simp only [hm, decide_true, if_true] at hP ⊢
              walk_at "r"
              exact hP
            · simp only [hm, decide_false] at hP ⊢
              walk_at "r"
              exact hP
          · walk_at "r"
            refine k D2 H3 ((s1.trans s2).trans s3) (Same.free (s1.trans s2) hD2) ?_
            rw [e3, List.map_map]; rfl
end
end K35

namespace K35
open PySem PySem.Spec PyProof.Rows L2
/-! ### counts by words -/
def bV (A : List Bool) : List V := A.map fun b => V.int (own b)
def iD (xs : List Int) : PyData := .list (xs.map PyData.int)
def lvD (A : List Bool) (n : Nat) : PyData := .tuple [iD (lv (tT n) A), iD (lv (tS n) A)]
def sp_counts (K : PySem.W.Frag) : Sp := fun vs H Q _ => ∃ (a : Addr) (A : List Bool) (m : Nat), vs = [.ref a, .int m] ∧ H a = some (.lst (bV A)) ∧ m ≤ 31 ∧ A.length ≤ 31 ∧
  ∀ D H', Same H H' → Jv.Dv K H' (.ref D) (.list ((List.range (m + 1)).map (lvD A))) → Q (.ref D) H'
theorem bV_at {A : List Bool} {i : Nat} {v : V} (h : (bV A)[i]? = some v) : i < A.length ∧ v = .int (own (A.getD i false)) := by
  unfold bV at h
  rw [List.getElem?_map] at h
  by_cases hi : i < A.length
  · rw [List.getElem?_eq_getElem hi] at h
    refine ⟨hi, ?_⟩
    rw [List.getD_eq_getElem?_getD, List.getElem?_eq_getElem hi]
    exact (Option.some.inj h).symm
  · rw [List.getElem?_eq_none (by omega)] at h; cases h
theorem bV_get {A : List Bool} {i : Nat} (h : i < A.length) : (bV A)[i]? = some (.int (own (A.getD i false))) := by
  unfold bV
  rw [List.getElem?_map, List.getD_eq_getElem?_getD, List.getElem?_eq_getElem h]; rfl
theorem bV_len {A : List Bool} : (bV A).length = A.length := by unfold bV; simp
theorem iD_at {K : PySem.W.Frag} {H : Hp} {v : V} {ns : List Int} (h : Jv.Dv K H v (iD ns)) : ∃ b, v = .ref b ∧ H b = some (.lst (ns.map V.int)) := by
  unfold iD at h
  cases h with
  | lst h al => exact ⟨_, rfl, by rw [← Jv.dv_intsV al]; exact h⟩
theorem iD_of {K : PySem.W.Frag} {H : Hp} {b : Addr} {ns : List Int} (h : H b = some (.lst (ns.map V.int))) : Jv.Dv K H (.ref b) (iD ns) := .lst h (Jv.dv_ints ns)
theorem lvD_at {K : PySem.W.Frag} {H : Hp} {v : V} {A : List Bool} {n : Nat} (h : Jv.Dv K H v (lvD A n)) : ∃ t b c, v = .ref t ∧ SqT K H t [.ref b, .ref c] ∧ H b = some (.lst ((lv (tT n) A).map V.int)) ∧ H c = some (.lst ((lv (tS n) A).map V.int)) := by
  unfold lvD at h
  cases h with
  | tup h al =>
    cases al with
    | cons a1 al =>
      cases al with
      | cons a2 al =>
        cases al
        obtain ⟨b, rfl, h1⟩ := iD_at a1
        obtain ⟨c, rfl, h2⟩ := iD_at a2
        exact ⟨_, b, c, rfl, h, h1, h2⟩
theorem atI_neg {xs : List V} {k : Nat} {v : V} (h1 : 1 ≤ k) (h2 : k ≤ xs.length) (h : xs[xs.length - k]? = some v) : atI xs (-(k : Int)) = some v := by
  unfold atI ixN
  rw [if_neg (by omega)]
  rw [if_pos (by omega)]
  show xs[_]? = some v
  rw [← h]
  congr 1
  omega
theorem getD_drop {A : List Bool} {i : Nat} (h : i < A.length) : A.drop i = A.getD i false :: A.drop (i + 1) := by
  rw [List.drop_eq_getElem_cons h, List.getD_eq_getElem?_getD, List.getElem?_eq_getElem h]; rfl
theorem lv_map {f : List Bool → Int} {A : List Bool} : lv f A = (List.range A.length).map fun i => f (A.drop i) := by
  refine List.ext_getElem? fun i => ?_
  by_cases h : i < A.length
  · rw [lv_at h, List.getElem?_map, List.getElem?_range h]; rfl
  · rw [List.getElem?_eq_none (by rw [lv_len]; omega), List.getElem?_eq_none (by simp; omega)]
theorem rep_flat {n : Nat} {x : V} : (List.replicate n [x]).flatten = List.replicate n x := by
  induction n with
  | zero => rfl
  | succ n ih => rw [List.replicate_succ, List.flatten_cons, ih, List.replicate_succ]; rfl
theorem lv0 : ∀ {A : List Bool}, lv (tT 0) A = List.replicate A.length 0
  | [] => rfl
  | b :: bs => by
    show 0 :: lv (tT 0) bs = _
    rw [lv0, List.length_cons, List.replicate_succ]
section
variable {P : Program} {w : World} {K : PySem.W.Frag} {mg : Str → Option Value} {base : Heap}
theorem ok_counts_by_words (T : Tx) (O : Ok K mg T) : FnOk P w K mg base CX0 1 T.f_counts_by_words T.d_counts_by_words ["allowed", "words"] (sp_counts K) := by
  refine O.F_counts_by_words.ok sc_counts_by_words (fun vs H Q E h => by obtain ⟨_, _, _, rfl, _⟩ := h; rfl) (fun cdv A0 outer s H vs Q E hr h => ?_)
  obtain ⟨a, A, m, rfl, ha, hm, few, q⟩ := h
  refine ⟨_, (pss_cons (ps_set (i := 2) sc_counts_by_words.nd rfl (Or.inl rfl) (pe_op op_rep (pe_lst (pa_cons pe_int pa_nil)) (pe_callB (r := Jv.rLenK K) Jv.cr_len (by rfl) O.z_len (by decide +kernel) (pa_cons (pv 0) pa_nil))))
  (pss_cons (ps_set (i := 3) sc_counts_by_words.nd rfl (Or.inl rfl) (pe_lst (pa_cons (pe_tup (pa_cons (pv 2) (pa_cons (pv 2) pa_nil))) pa_nil)))
  (pss_cons (ps_for PassesOwn.never rfl (pi_range1 (by rfl) O.z_range (pa_cons (pv 1) pa_nil)) (pg_name (i := 4) sc_counts_by_words.nd rfl (Or.inl rfl)) (pss_cons (ps_asg (pe_ix (r := rIxL K) ix_list (pv 3) (pe_un un_neg pe_int) (fun _ _ => rfl)) (pg_tup rfl (pgs_cons (pg_name (i := 5) sc_counts_by_words.nd rfl (Or.inr rfl)) (pgs_cons (pg_name (i := 6) sc_counts_by_words.nd rfl (Or.inr rfl)) pgs_nil))))
  (pss_cons (ps_setLc (i := 7) (own := [("end", 9), ("let", 10)]) (by rfl) sc_counts_by_words.nd rfl rfl (sw_true rfl rfl rfl (by decide +kernel)) (show PI _ _ _ (iEnum K _) from pi_enum (by rfl) O.z_enumerate (pa_cons (pv 0) pa_nil)) (blkOk_by (own := [("end", 9), ("let", 10)]) (N := ["allowed", "words", "nobody", "found", "_", "told", "asked", "speaking", "waiting", "end", "let"]) (sc := defScope s_counts_by_words) (scope := ({ kind := .function, names := [(".0", .local), ("end", .local), ("let", .local), ("sum", .globalImplicit), ("asked", .free)], isGenerator := false, isCoroutine := false } : Scope)) (by decide +kernel)) (fun _ _ _ _ _ => (show PG _ _ (gTup K 2 _) from pg_tup rfl (pgs_cons (pg_name (i := 9) sc_counts_by_words.nd rfl (Or.inl rfl) (Or.inr rfl)) (pgs_cons (pg_name (i := 10) sc_counts_by_words.nd rfl (Or.inl rfl) (Or.inr rfl)) pgs_nil)))) (fun _ _ _ _ _ => pts_nil) (fun _ _ _ _ _ => (pe_op op_add (pv 10) (pe_callB (r := rSum K) (cr_sum rfl) (by rfl) O.z_sum (by decide +kernel) (pa_cons (pe_slice (r := rSlL K) sl_list (pv 6) (po_some (pe_op op_add (pv 9) pe_int)) po_none) pa_nil)))))
  (pss_cons (ps_setLc (i := 8) (own := [("end", 9), ("let", 10)]) (by rfl) sc_counts_by_words.nd rfl rfl (sw_true rfl rfl rfl (by decide +kernel)) (show PI _ _ _ (iEnum K _) from pi_enum (by rfl) O.z_enumerate (pa_cons (pv 0) pa_nil)) (blkOk_by (own := [("end", 9), ("let", 10)]) (N := ["allowed", "words", "nobody", "found", "_", "told", "asked", "speaking", "waiting", "end", "let"]) (sc := defScope s_counts_by_words) (scope := ({ kind := .function, names := [(".0", .local), ("end", .local), ("let", .local), ("max", .globalImplicit), ("told", .free)], isGenerator := false, isCoroutine := false } : Scope)) (by decide +kernel)) (fun _ _ _ _ _ => (show PG _ _ (gTup K 2 _) from pg_tup rfl (pgs_cons (pg_name (i := 9) sc_counts_by_words.nd rfl (Or.inl rfl) (Or.inr rfl)) (pgs_cons (pg_name (i := 10) sc_counts_by_words.nd rfl (Or.inl rfl) (Or.inr rfl)) pgs_nil)))) (fun _ _ _ _ _ => pts_nil) (fun _ _ _ _ _ => (pe_callB (r := rMax K) (cr_max rfl) (by rfl) O.z_max (by decide +kernel) (pa_cons (pe_op op_cat (pe_lst (pa_cons (pv 10) pa_nil)) (pe_slice (r := rSlL K) sl_list (pv 5) (po_some (pe_op op_add (pv 9) pe_int)) po_none)) pa_nil))))
  (pss_one (ps_expr (show PE _ _ (tBM K _ _ _ _) from pe_bm PySem.F.plainAttrs_list PySem.F.slot_list_append PySem.F.type_list_append mt_append (pv 3) (pa_cons (pe_tup (pa_cons (pv 7) (pa_cons (pv 8) pa_nil))) pa_nil))))))))
  (pss_one (ps_ret (pv 3)))))), ?_⟩
  have few2 : (bV A).length ≤ 31 := by rw [bV_len]; exact few
  walk_at "r"
  intro p hp
  walk_at "r"
  refine ⟨p, _, _, rfl, rfl, upd_same, by omega, by omega, Jv.small_of (by simp; omega), fun p2 hp2 => ?_⟩
  have s1 := (Jv.same_new (u := .lst [.int 0]) hp).trans (Jv.same_new (u := .lst (List.replicate ((bV A).length : Int).toNat [V.int 0]).flatten) hp2)
  have e1 : upd (upd H p (.lst [.int 0])) p2 (.lst (List.replicate ((bV A).length : Int).toNat [V.int 0]).flatten) p2 = some (.lst ((lv (tT 0) A).map V.int)) := by
    rw [upd_same, Int.toNat_natCast, bV_len]
    rw [lv0, List.map_replicate, rep_flat]
  generalize upd (upd H p (.lst [.int 0])) p2 (.lst (List.replicate ((bV A).length : Int).toNat [V.int 0]).flatten) = H1 at s1 e1 ⊢
  clear hp hp2
  walk_at "r"
  intro t ht
  have s2 := Jv.same_new (u := .tup [.ref p2, .ref p2]) ht
  walk_at "r"
  intro D hD
  have e0 : lv (tT 0) A = lv (tS 0) A := rfl
  have d0 : Jv.Dv K (upd H1 t (.tup [.ref p2, .ref p2])) (.ref t) (lvD A 0) := .tup (Jv.sqT_at upd_same) (.cons (iD_of (s2 _ _ e1)) (.cons (iD_of (s2 _ _ (by rw [← e0]; exact e1))) .nil))
  have nDH : H D = none := Same.free (s1.trans s2) hD
  walk_at "r"
  refine ⟨m, rfl, by omega, by omega, ?_⟩
  refine for_range (lo := 0) (n := ((m : Nat) : Int).toNat) (fun i σ H' => ∃ y4 y5 y6 y7 y8 vs, σ = [some (.ref a), some (.int m), some (.ref p2), some (.ref D), y4, y5, y6, y7, y8, none, none] ∧ Same H H' ∧ H' D = some (.lst vs) ∧ Jv.DvAll K (Jv.hide [D] H') vs ((List.range (i + 1)).map (lvD A)))
    ⟨_, _, _, _, _, _, rfl, (s1.trans s2).trans (Jv.same_new hD), upd_same, .cons (d0.same (Jv.hide_nil (H := upd H1 t (.tup [.ref p2, .ref p2])) ▸ Jv.hide_more (Jv.same_new hD) hD)) .nil⟩ ?_ ?_
  · rintro i σ H2 hi ⟨y4, y5, y6, y7, y8, vs, rfl, s3, e3, al⟩
    have len := al.len
    rw [List.length_map, List.length_range] at len
    obtain ⟨v, hv, dv⟩ := al.of (i := i) (d := lvD A i) (by rw [List.getElem?_map, List.getElem?_range (by omega)]; rfl)
    walk_at "r"
    refine Jv.r_ixL (Jv.sqL_at e3) (show atI _ (-1) = _ from atI_neg (k := 1) (by omega) (by omega) (by rw [len]; exact hv)) ?_
    obtain ⟨t2, b, c, rfl, ht2, hb, hc⟩ := lvD_at dv
    have ht3 := Jv.Same.sqT Jv.hide_le ht2
    have hb3 := Jv.hide_le _ _ hb
    have hc3 := Jv.hide_le _ _ hc
    refine Jv.r_gtup ht3 rfl ?_
    walk_at "r"
    refine Jv.lcEnN (xs := bV A) (fun PP hP => by walk_at "r"; exact hP) (Jv.sqL_at (s3 _ _ ha)) (fun k => .int (tT (i + 1) (A.drop k))) (by omega) (fun _ _ => rfl) (fun k v H3 hv s4 PP hP => ?_) (fun D3 H3 s4 hD3 e4 => ?_)
    · obtain ⟨hk, rfl⟩ := bV_at hv
      walk_at "r"
      refine Jv.r_tSl ?_
      walk_at "r"
      refine Jv.r_part ?_
      walk_at "r"
      refine Jv.r_partI (Jv.r_noPart ?_)
      refine Jv.r_slL (s4 _ _ hc3) fun p5 H5 hp5 s5 e5 => ?_
      rw [Jv.cut_drop (by omega) (by rw [List.length_map, lv_len]; omega), show ((k : Nat) + 1 : Int).toNat = k + 1 by omega, ← List.map_drop, lv_drop] at e5
      walk_at "r"
      refine ⟨p5, _, rfl, Jv.sqL_at e5, ?_⟩
      walk_at "r"
      have := hP _ s5
      rw [getD_drop hk, T_cons] at this
      exact this
    · walk_at "r"
      refine Jv.lcEnN (xs := bV A) (fun PP hP => by walk_at "r"; exact hP) (Jv.sqL_at (s4 _ _ (s3 _ _ ha))) (fun k => .int (tS (i + 1) (A.drop k))) (by omega) (fun _ _ => rfl) (fun k v H4 hv s5 PP hP => ?_) (fun D4 H4 s5 hD4 e5 => ?_)
      · obtain ⟨hk, rfl⟩ := bV_at hv
        walk_at "r"
        intro p6 hp6
        have s6 := Jv.same_new (u := .lst [.int (own (A.getD k false))]) hp6
        refine Jv.r_tSl ?_
        walk_at "r"
        refine Jv.r_part ?_
        walk_at "r"
        refine Jv.r_partI (Jv.r_noPart ?_)
        refine Jv.r_slL (s6 _ _ (s5 _ _ (s4 _ _ hb3))) fun p7 H7 hp7 s7 e7 => ?_
        rw [Jv.cut_drop (by omega) (by rw [List.length_map, lv_len]; omega), show ((k : Nat) + 1 : Int).toNat = k + 1 by omega, ← List.map_drop, lv_drop] at e7
        refine Jv.r_cat (s7 _ _ upd_same) e7 (by simp [lv_len]; omega) fun p8 H8 hp8 s8 e8 => ?_
        walk_at "r"
        refine ⟨p8, own (A.getD k false) :: lv (tT i) (A.drop (k + 1)), rfl, Jv.sqL_at e8, by simp, fun mm h1 h2 => ?_⟩
        have := hP _ ((s6.trans s7).trans s8)
        rw [getD_drop hk, S_cons, ← mx_is h1 h2] at this
        exact this
      · have e4' := s5 _ _ e4
        have f4 : (List.range (bV A).length).map (fun k => V.int (tT (i + 1) (A.drop k))) = (lv (tT (i + 1)) A).map V.int := by rw [bV_len, lv_map, List.map_map]; rfl
        have f5 : (List.range (bV A).length).map (fun k => V.int (tS (i + 1) (A.drop k))) = (lv (tS (i + 1)) A).map V.int := by rw [bV_len, lv_map, List.map_map]; rfl
        rw [f4] at e4'
        rw [f5] at e5
        have e3' := s5 _ _ (s4 _ _ e3)
        walk_at "r"
        intro p9 hp9
        have s9 := Jv.same_new (u := .tup [.ref D3, .ref D4]) hp9
        have n3 : D3 ≠ D := fun e => by rw [e, e3] at hD3; cases hD3
        have n4 : D4 ≠ D := fun e => by rw [e, s4 _ _ e3] at hD4; cases hD4
        have n9 : p9 ≠ D := fun e => by rw [e, e3'] at hp9; cases hp9
        walk_at "r"
        refine Jv.r_app (s9 _ _ e3') (by omega) ?_
        refine ⟨_, _, _, _, _, _, rfl, fun b o e => Jv.kpO (s9 _ _ (s5 _ _ (s4 _ _ (s3 _ _ e)))) (ne_of_none e nDH), upd_same, ?_⟩
        rw [Jv.hide_upd, List.range_succ, List.map_append]
        refine Jv.DvAll.snoc ?_ (al.same (Jv.hide_same ((s4.trans s5).trans s9)))
        refine .tup (Jv.sqT_at (Jv.hide_one n9 upd_same)) (.cons (iD_of (Jv.hide_one n3 (s9 _ _ e4'))) (.cons (iD_of (Jv.hide_one n4 (s9 _ _ e5))) .nil))
  · rintro σ H2 ⟨y4, y5, y6, y7, y8, vs, rfl, s3, e3, al⟩
    walk_at "r"
    exact q D H2 s3 (.lst e3 (al.same Jv.hide_le))
end
end K35

namespace K35
open PySem PySem.Spec PyProof.Rows L2
/-! ### told_split, told_within -/
def sp_split_at (K : PySem.W.Frag) : Sp := fun vs H Q _ => ∃ (a D : Addr) (A : List Bool) (m st : Nat), vs = [.ref a, .ref D, .int m, .int st] ∧ H a = some (.lst (bV A)) ∧ 1 ≤ m ∧ m ≤ 31 ∧ A.length ≤ 31 ∧ st < A.length ∧
  Jv.Dv K H (.ref D) (.list ((List.range (m + 1)).map (lvD A))) ∧ ∀ t H', Same H H' → SqT K H' t ((due A (m - 1) st).map V.int) → Q (.ref t) H'
def sp_told_split (K : PySem.W.Frag) (T : Tx) : Sp := fun vs H Q E => ∃ vl ve vw vd, vs = [vl, ve, vw, vd] ∧ Asked K T H vl ve vw vd E fun ns => ∀ t H', Same H H' → SqT K H' t (ns.map V.int) → Q (.ref t) H'
def sp_told_within (K : PySem.W.Frag) (T : Tx) : Sp := fun vs H Q E => ∃ vl ve vw vd, vs = [vl, ve, vw, vd] ∧ Asked K T H vl ve vw vd E fun ns => ∀ H', Same H H' → Q (.int ns.sum) H'
section
variable {P : Program} {w : World} {K : PySem.W.Frag} {mg : Str → Option Value} {base : Heap}
theorem ok_split_at (T : Tx) (O : Ok K mg T) : FnOk P w K mg base CX0 1 T.f_split_at T.d_split_at ["allowed", "counts", "words", "end"] (sp_split_at K) := by
  refine O.F_split_at.ok sc_split_at (fun vs H Q E h => by obtain ⟨_, _, _, _, _, rfl, _⟩ := h; rfl) (fun cdv A0 outer s H vs Q E hr h => ?_)
  obtain ⟨a, D, A, m, st, rfl, ha, h1, h2, few, hst, dv, q⟩ := h
  refine ⟨_, (pss_one (ps_ret (pe_op (r := rCatT K) op_catT (pe_tup (pa_cons (pe_ix (r := rIxL K) ix_list (pv 0) (pv 3) (fun _ _ => rfl)) pa_nil)) (pe_callTy (r := Jv.rTupOf K) call_tuple_of (by rfl) O.z_tuple (by decide +kernel) (pa_cons (pe_slice (r := rSlL K) sl_list (pe_ix (r := rIxT K) ix_tup (pe_ix (r := rIxL K) ix_list (pv 1) (pe_op op_sub (pv 2) pe_int) (fun _ _ => rfl)) pe_int (fun _ _ => rfl)) (po_some (pe_op op_add (pv 3) pe_int)) po_none) pa_nil))))), ?_⟩
  walk_at "r"
  refine Jv.r_ixL (Jv.sqL_at ha) (Jv.at_i (by omega) (by rw [Int.toNat_natCast]; exact bV_get hst)) ?_
  walk_at "r"
  intro p hp
  have s1 := Jv.same_new (u := .tup [.int (own (A.getD st false))]) hp
  have dv1 := dv.same s1
  cases dv1 with
  | lst hD al =>
    have e : ((List.range (m + 1)).map (lvD A))[m - 1]? = some (lvD A (m - 1)) := by rw [List.getElem?_map, List.getElem?_range (by omega)]; rfl
    obtain ⟨v, hv, dv⟩ := al.of e
    walk_at "r"
    refine Jv.r_tSl ?_
    walk_at "r"
    refine Jv.r_ixL (Jv.sqL_at hD) (Jv.at_i (by omega) (by rw [show ((m : Int) - 1).toNat = m - 1 by omega]; exact hv)) ?_
    obtain ⟨t2, b, c, rfl, ht2, hb, hc⟩ := lvD_at dv
    walk_at "r"
    refine Jv.r_part ?_
    walk_at "r"
    refine Jv.r_partI (Jv.r_noPart ?_)
    refine Jv.r_slL hc fun p5 H5 hp5 s5 e5 => ?_
    rw [Jv.cut_drop (by omega) (by rw [List.length_map, lv_len]; omega), show ((st : Nat) + 1 : Int).toNat = st + 1 by omega, ← List.map_drop, lv_drop] at e5
    walk_at "r"
    refine Jv.r_tupOfL (Jv.sqL_at e5) fun t3 ht3 => ?_
    have s3 := Jv.same_new (u := .tup ((lv (tS (m - 1)) (A.drop (st + 1))).map V.int)) ht3
    refine ⟨p, t3, _, _, rfl, rfl, Jv.sqT_at ((s5.trans s3) _ _ upd_same), Jv.sqT_at upd_same, by simp, Jv.small_of (by simp [lv_len]; omega), fun e => ?_, fun e p4 hp4 => ?_⟩
    · refine q p _ ((s1.trans s5).trans s3) (Jv.sqT_at (((s5.trans s3) _ _ upd_same).trans ?_))
      unfold due
      rw [List.map_cons, e]
    · exact q p4 _ (((s1.trans s5).trans s3).trans (Jv.same_new hp4)) (Jv.sqT_at upd_same)
  | _ => done
theorem ok_told_split (T : Tx) (O : Ok K mg T) : FnOk P w K mg base (L2.CX P w) 3 T.f_told_split T.d_told_split ["ladder", "ends", "words", "end"] (sp_told_split K T) := by
  refine O.F_told_split.okX sc_told_split (fun vs H Q E h => by obtain ⟨_, _, _, _, rfl, _⟩ := h; rfl) (fun cdv A0 outer s H vs Q E hr h => ?_)
  obtain ⟨vl, ve, vw, vd, rfl, dl, de, dw, dd, hl, he, hw, hd, qq⟩ := h
  refine ⟨_, (pss_cons (ps_expr (pe_callS (ok_check_ladder T O) (hr.mono (by decide)) (by rfl) O.m_check_ladder O.F_check_ladder.kp O.b_check_ladder (fun σ => passAt (takes_of rfl rfl rfl rfl) σ) (pa_cons (pv 0) (pa_cons (pe_glob (v := .int (30)) (by rfl) O.c_TOLD_LADDER_MOST ⟨_, rfl⟩) pa_nil))))
  (pss_cons (ps_set (i := 4) sc_told_split.nd rfl (Or.inl rfl) (pe_callS (ok_allowed_ends T O) (hr.mono (by decide)) (by rfl) O.m_allowed_ends O.F_allowed_ends.kp O.b_allowed_ends (fun σ => passAt (takes_of rfl rfl rfl rfl) σ) (pa_cons (pv 0) (pa_cons (pv 1) pa_nil))))
  (pss_cons (ps_set (i := 5) sc_told_split.nd rfl (Or.inl rfl) (pe_callS (ok_words_left T O) (hr.mono (by decide)) (by rfl) O.m_words_left O.F_words_left.kp O.b_words_left (fun σ => passAt (takes_of rfl rfl rfl rfl) σ) (pa_cons (pv 0) (pa_cons (pv 2) pa_nil))))
  (pss_cons (ps_if (pt_not (pt_val (pe_call (ok_is_whole T O) (hr.mono (by decide)) (by rfl) O.m_is_whole O.F_is_whole.kp O.b_is_whole .nil pass0 (pa_cons (pv 3) (pa_cons pe_int (pa_cons (pv 0) pa_nil)))))) (pss_one (ps_raise rfl (takes_of rfl rfl rfl rfl) (Jv.pmk_own0 PySem.F.excBase_ValueError O.e_BadEnd.x O.m_BadEnd O.e_BadEnd.k (O.e_BadEnd.raises) (by rfl)))) pss_nil)
  (pss_one (ps_ret (pe_call (ok_split_at T O) (hr.mono (by decide)) (by rfl) O.m_split_at O.F_split_at.kp O.b_split_at .nil pass0 (pa_cons (pv 4) (pa_cons (pe_call (ok_counts_by_words T O) (hr.mono (by decide)) (by rfl) O.m_counts_by_words O.F_counts_by_words.kp O.b_counts_by_words .nil pass0 (pa_cons (pv 4) (pa_cons (pv 5) pa_nil))) (pa_cons (pv 5) (pa_cons (pv 3) pa_nil))))))))))), ?_⟩
  walk_at "r"
  refine ⟨vl, dl, 30, rfl, hl, ?_⟩
  rcases qq with ⟨e, k⟩ | ⟨L, rfl, hL, qq⟩
  · exact .inr ⟨e, k⟩
  refine .inl ⟨whole_yes hL, ?_⟩
  obtain rfl : vl = .int L := by cases hl; rfl
  walk_at "r"
  refine ⟨L, ve, de, rfl, hL, he, ?_⟩
  rcases qq with ⟨e, k⟩ | ⟨A, hA, qq⟩
  · exact .inl ⟨e, k⟩
  refine .inr ⟨A, hA, fun a H1 s1 na ha => ?_⟩
  walk_at "r"
  refine ⟨L, vw, dw, rfl, hL, hw.same s1, ?_⟩
  rcases qq with ⟨e, k⟩ | ⟨m, hm, qq⟩
  · exact .inl ⟨e, fun H' s' => k _ (s1.trans s')⟩
  refine .inr ⟨m, hm, ?_⟩
  walk_at "r"
  refine ⟨vd, dd, .int 0, .int L, rfl, hd.same s1, .inr ⟨_, rfl⟩, .inr ⟨_, rfl⟩, ?_⟩
  rw [hd.whole]
  rcases qq with ⟨e, k⟩ | ⟨st, rfl, hst, k⟩
  · rw [e]
    walk_at "r"
    exact k _ s1
  obtain rfl : vd = .int st := by cases hd; rfl
  rw [whole_yes hst]
  have hm1 := hm.pos
  have hA1 := hA.len
  walk_at "r"
  refine ⟨a, A, m, rfl, ha, by omega, by omega, fun D H2 s2 dv => ?_⟩
  walk_at "r"
  exact ⟨a, D, A, m, st, rfl, s2 _ _ ha, hm1.1, by omega, by omega, by omega, dv, fun t H3 s3 ht => k t H3 ((s1.trans s2).trans s3) ht⟩
theorem Asked.imp {K : PySem.W.Frag} {T : Tx} {H : Hp} {vl ve vw vd : V} {E : XK} {g g' : List Int → Prop} (h : Asked K T H vl ve vw vd E g) (f : ∀ ns, g ns → g' ns) : Asked K T H vl ve vw vd E g' := by
  obtain ⟨dl, de, dw, dd, hl, he, hw, hd, qq⟩ := h
  refine ⟨dl, de, dw, dd, hl, he, hw, hd, ?_⟩
  rcases qq with q | ⟨L, e, hL, q | ⟨A, hA, q | ⟨m, hm, q | ⟨st, e2, hst, k⟩⟩⟩⟩
  · exact .inl q
  · exact .inr ⟨L, e, hL, .inl q⟩
  · exact .inr ⟨L, e, hL, .inr ⟨A, hA, .inl q⟩⟩
  · exact .inr ⟨L, e, hL, .inr ⟨A, hA, .inr ⟨m, hm, .inl q⟩⟩⟩
  · exact .inr ⟨L, e, hL, .inr ⟨A, hA, .inr ⟨m, hm, .inr ⟨st, e2, hst, f _ k⟩⟩⟩⟩
theorem ok_told_within (T : Tx) (O : Ok K mg T) : FnOk P w K mg base (L2.CX P w) 4 T.f_told_within T.d_told_within ["ladder", "ends", "words", "end"] (sp_told_within K T) := by
  refine O.F_told_within.okX sc_told_within (fun vs H Q E h => by obtain ⟨_, _, _, _, rfl, _⟩ := h; rfl) (fun cdv A0 outer s H vs Q E hr h => ?_)
  obtain ⟨vl, ve, vw, vd, rfl, h⟩ := h
  refine ⟨_, (pss_one (ps_ret (pe_callB (r := Jv.rSumA K) (Jv.cr_sumA rfl) (by rfl) O.z_sum (by decide +kernel) (pa_cons (Jv.pe_callNS (ok_told_split T O) (hr.mono (by decide)) (by rfl) O.m_told_split O.F_told_split.kp O.kb1_ends_words_end_told_split (fun σ => passAt (takes_of rfl rfl rfl rfl) σ) (pa_cons (pv 0) pa_nil) (pk_cons (pv 1) (pk_cons (pv 2) (pk_cons (pv 3) pk_nil)))) pa_nil)))), ?_⟩
  walk_at "r"
  refine Jv.r_callNS ?_
  walk_at "r"
  refine ⟨rfl, rfl, vl, ve, vw, vd, rfl, h.imp fun ns k t H1 s1 ht => ?_⟩
  walk_at "r"
  exact ⟨.ref t, ns, rfl, ⟨t, rfl, .inr ht⟩, k _ s1⟩
end
end K35

namespace K35
open PySem PySem.Spec PyProof.Rows L2
/-! ### the law's ends, words, allowed -/
theorem can_ints : ∀ ns : List Int, PyData.canLayAll0 (ns.map PyData.int) = true ∧ PyData.depthAll (ns.map PyData.int) ≤ 1
  | [] => ⟨by simp [PyData.canLayAll0], by simp [PyData.depthAll]⟩
  | a :: r => by
    obtain ⟨h1, h2⟩ := can_ints r
    refine ⟨?_, ?_⟩
    · rw [List.map_cons]; simp only [PyData.canLayAll0, PyData.canLay0, h1, Bool.and_self, Bool.true_and]
    · rw [List.map_cons]; simp only [PyData.depthAll, PyData.depth]; omega
theorem shaped_ints (ns : List Int) : SeqAt.shaped (.list (ns.map PyData.int)) = true ∧ SeqAt.shaped (.tuple (ns.map PyData.int)) = true := by
  obtain ⟨h1, h2⟩ := can_ints ns
  unfold SeqAt.shaped
  constructor <;> · simp only [PyData.canLay0, PyData.depth, h1, Bool.true_and]; exact decide_eq_true (by omega)
def EndsV (L : Nat) (d : PyData) : Prop := d = .none ∨ ∃ ns : List Int, Jv.seqD d = some (ns.map PyData.int) ∧ (∀ z ∈ ns, 0 ≤ z ∧ z ≤ L) ∧ ns.length ≤ 70
theorem EndsV.of {L : Nat} {d : PyData} (h : EndsV L d) : ∃ A, EndsOf d L A := by
  rcases h with rfl | ⟨ns, h1, h2, h3⟩
  · exact ⟨_, .inl ⟨rfl, rfl⟩⟩
  · exact ⟨_, .inr ⟨ns, h1, h2, by omega, rfl⟩⟩
def sp_Lis_number : Sp := fun vs H Q _ => ∃ i : Int, vs = [.int i] ∧ Q (.bl true) H
def sp_Lnumbers (K : PySem.W.Frag) : Sp := fun vs H Q _ => ∃ (t : Addr) (ns : List Int), vs = [.ref t, .int (ns.length : Nat)] ∧ SqT K H t (ns.map V.int) ∧ ns.length ≤ 900 ∧ ∀ H', Same H H' → Q (.bl true) H'
def sp_Lsome_ends (K : PySem.W.Frag) : Sp := fun vs H Q _ => ∃ (h hl : Addr) (L : Nat), vs = [.ref h, .int L] ∧ Jv.Hand H h hl ∧ L ≤ 30 ∧ ∀ v d H', Jv.Kp h H H' → Jv.Hand H' h hl → Jv.Dv K (Jv.hide [h] H') v d → EndsV L d → Q v H'
def WordsV (d : PyData) : Prop := d = .none ∨ ∃ w : Int, d = .int w ∧ 1 ≤ w
def sp_Lsome_words (K : PySem.W.Frag) : Sp := fun vs H Q _ => ∃ (h hl : Addr) (L : Nat), vs = [.ref h, .int L] ∧ Jv.Hand H h hl ∧ L ≤ 30 ∧ ∀ v d H', Jv.Kp h H H' → Jv.Hand H' h hl → (∀ Hx, Jv.Dv K Hx v d) → WordsV d → Q v H'
def sp_Lallowed (K : PySem.W.Frag) : Sp := fun vs H Q _ => ∃ (L : Nat) (v : V) (d : PyData), vs = [.int L, v] ∧ Jv.Dv K H v d ∧ EndsV L d ∧ L ≤ 30 ∧ ∀ A D H', EndsOf d L A → Same H H' → H D = none → H' D = some (.lst (A.map V.bl)) → Q (.ref D) H'
section
variable {P : Program} {w : World} {K : PySem.W.Frag} {mg : Str → Option Value} {base : Heap}
theorem ok_Lis_number (T : Tx) (O : Ok K mg T) : FnOk P w K mg base CX0 1 T.f_Lis_number T.d_Lis_number ["_law_thing"] sp_Lis_number := by
  refine O.F_Lis_number.ok sc_Lis_number (fun vs H Q E h => by obtain ⟨_, rfl, _⟩ := h; rfl) (fun cdv A outer s H vs Q E hr h => ?_)
  obtain ⟨i, rfl, q⟩ := h
  refine ⟨_, (pss_one (ps_ret (pe_and (pe_callB (r := rIsi K) call_isi (by rfl) O.z_isinstance (by decide +kernel) (pa_cons (pv 0) (pa_cons (pe_bltn (v := .ty "int") (by rfl) O.z_int (by decide +kernel) rfl) pa_nil))) (pe_one (pe_not (pe_callB (r := rIsi K) call_isi (by rfl) O.z_isinstance (by decide +kernel) (pa_cons (pv 0) (pa_cons (pe_bltn (v := .ty "bool") (by rfl) O.z_bool (by decide +kernel) rfl) pa_nil)))))))), ?_⟩
  have hx : Jv.Dv K H (.int i) (.int i) := .int i
  walk_at "r"
  exact q
theorem ok_Lnumbers (T : Tx) (O : Ok K mg T) : FnOk P w K mg base CX0 2 T.f_Lnumbers T.d_Lnumbers ["_law_thing", "_law_many"] (sp_Lnumbers K) := by
  refine O.F_Lnumbers.ok sc_Lnumbers (fun vs H Q E h => by obtain ⟨_, _, rfl, _⟩ := h; rfl) (fun cdv A outer s H vs Q E hr h => ?_)
  obtain ⟨t, ns, rfl, ht, few, q⟩ := h
  refine ⟨_, (pss_cons (ps_if (PW.pt (pw_or (pt_not (pt_val (pe_callB (r := rIsi K) call_isi (by rfl) O.z_isinstance (by decide +kernel) (pa_cons (pv 0) (pa_cons (pe_bltn (v := .ty "tuple") (by rfl) O.z_tuple (by decide +kernel) rfl) pa_nil))))) (pw_or1 (pt_cmpR op_ne (pe_callB (r := Jv.rLenK K) Jv.cr_len (by rfl) O.z_len (by decide +kernel) (pa_cons (pv 0) pa_nil)) (pv 1) (nomark _))))) (pss_one (ps_ret pe_bl)) pss_nil)
  (pss_one (ps_ret (pe_cmpR (r := rEqD K) (op_eqD hr.units) (pe_lc (own := [("_law_one", 2)]) (by rfl) sc_Lnumbers.nd (Jv.piOr (show PI _ _ _ (iList K _) from pi_list (pv 0)) (show PI _ _ _ (iTup K _) from pi_tup (pv 0))) (blkOk_by (own := [("_law_one", 2)]) (N := ["_law_thing", "_law_many", "_law_one"]) (sc := defScope s_Lnumbers) (scope := ({ kind := .function, names := [(".0", .local), ("_law_one", .local), ("_law_is_number", .globalImplicit)], isGenerator := false, isCoroutine := false } : Scope)) (by decide +kernel)) (fun _ _ _ _ _ => (pg_name (i := 2) sc_Lnumbers.nd rfl (Or.inl rfl))) (fun _ _ _ _ _ => (pts_one (pt_not (pt_val (pe_call (ok_Lis_number T O) (hr.mono (by decide)) (by rfl) O.m_Lis_number O.F_Lis_number.kp O.b_Lis_number .nil pass0 (pa_cons (pv 2) pa_nil)))))) (fun _ _ _ _ _ => (pv 2))) (pe_lst pa_nil) (nomark _))))), ?_⟩
  walk_at "r"
  refine Jv.d_isT (.tup ht (Jv.dv_ints ns)) ?_
  walk_at "r"
  rw [List.length_map]
  rw [decide_eq_true rfl]
  walk_at "r"
  refine Jv.lcF2 (ns := ns) (i := 0) (by rfl) ⟨t, rfl, .inr ht⟩ (fun _ => false) (by omega) (fun z H1 hz s1 R hR => ?_) (fun z H1 PP hP => ?_) (fun D H1 s1 hD eD => ?_)
  · walk_at "r"
    exact ⟨z, rfl, ⟨true, rfl, hR _ (Same.refl _)⟩⟩
  · walk_at "r"
    exact hP
  · walk_at "r"
    intro D2 hD2
    have s2 := Jv.same_new (u := .lst []) hD2
    rw [show ns.filter (fun _ => false) = [] from List.filter_eq_nil_iff.mpr fun _ _ e => nomatch e] at eD
    exact Jv.eq_self (d := .list []) (.lst (s2 _ _ eD) .nil) (.lst upd_same .nil) (shaped_ints []).1 (q _ (s1.trans s2))
theorem dr {H : Hp} {Q : VK} {E : XK} {h hl : Addr} {m : Int} (hh : Jv.Hand H h hl) (m0 : 0 < m) (m1 : m < 2 ^ 200) (q : ∀ z H1, 0 ≤ z → z < m → Jv.Kp h H H1 → Jv.Hand H1 h hl → Q (.int z) H1) : sp_Ldraw ([.ref h, .int m] ++ []) H Q E :=
  ⟨h, hl, m, rfl, hh, ⟨m0, Jv.log_small m0 m1⟩, q⟩
structure Fd (H0 : Hp) (h hl : Addr) (L n : Nat) (σ : L2.St) (H : Hp) : Prop where
  ex : ∃ (a : Addr) (ns : List Int) (y3 y4 : Option V), σ = [some (.ref h), some (.int L), some (.ref a), y3, y4] ∧ H a = some (.lst (ns.map V.int)) ∧ a ≠ h ∧ (∀ z ∈ ns, 0 ≤ z ∧ z ≤ L) ∧ ns.length ≤ n
  kp : Jv.Kp h H0 H
  hh : Jv.Hand H h hl
theorem ok_Lsome_ends (T : Tx) (O : Ok K mg T) : FnOk P w K mg base CX0 3 T.f_Lsome_ends T.d_Lsome_ends ["_law_hand_here", "_law_ladder"] (sp_Lsome_ends K) := by
  refine O.F_Lsome_ends.ok sc_Lsome_ends (fun vs H Q E h => by obtain ⟨_, _, _, rfl, _⟩ := h; rfl) (fun cdv A outer s H vs Q E hr h => ?_)
  obtain ⟨h, hl, L, rfl, hh, hL, q⟩ := h
  refine ⟨_, (pss_cons (ps_if (pt_cmpR op_eq (pe_call (ok_Ldraw T O) (hr.mono (by decide)) (by rfl) O.m_Ldraw O.F_Ldraw.kp O.b_Ldraw .nil pass0 (pa_cons (pv 0) (pa_cons pe_int pa_nil))) pe_int (nomark _)) (pss_one (ps_ret pe_non)) pss_nil)
  (pss_cons (ps_set (i := 2) sc_Lsome_ends.nd rfl (Or.inl rfl) (pe_lst pa_nil))
  (C8.pss_cut (ps_for PassesOwn.never rfl (pi_range1 (by rfl) O.z_range (pa_cons (pe_op op_add (pv 1) pe_int) pa_nil)) (pg_name (i := 3) sc_Lsome_ends.nd rfl (Or.inl rfl)) (pss_cons (ps_set (i := 4) sc_Lsome_ends.nd rfl (Or.inl rfl) (pe_call (ok_Ldraw T O) (hr.mono (by decide)) (by rfl) O.m_Ldraw O.F_Ldraw.kp O.b_Ldraw .nil pass0 (pa_cons (pv 0) (pa_cons pe_int pa_nil))))
  (pss_one (ps_if (pt_cmpR op_gt (pv 4) pe_int (nomark _)) (pss_one (ps_set (i := 2) sc_Lsome_ends.nd rfl (Or.inl rfl) (pe_ifExp (pt_cmpR op_eq (pv 4) pe_int (nomark _)) (pe_op op_cat (pe_lst (pa_cons (pv 3) pa_nil)) (pv 2)) (pe_op op_cat (pv 2) (pe_lst (pa_cons (pv 3) pa_nil)))))) pss_nil))))
  (C8.pss_cut (ps_if (PW.pt (pw_and (pt_cmpR (r := rEqD K) (op_eqD hr.units) (pv 2) (pe_lst pa_nil) (nomark _)) (pw_and1 (pt_cmpR op_gt (pe_call (ok_Ldraw T O) (hr.mono (by decide)) (by rfl) O.m_Ldraw O.F_Ldraw.kp O.b_Ldraw .nil pass0 (pa_cons (pv 0) (pa_cons pe_int pa_nil))) pe_int (nomark _))))) (pss_one (ps_set (i := 2) sc_Lsome_ends.nd rfl (Or.inl rfl) (pe_lst (pa_cons (pe_call (ok_Ldraw T O) (hr.mono (by decide)) (by rfl) O.m_Ldraw O.F_Ldraw.kp O.b_Ldraw .nil pass0 (pa_cons (pv 0) (pa_cons (pe_op op_add (pv 1) pe_int) pa_nil))) pa_nil)))) pss_nil)
  (C8.pss_cut (ps_if (pt_cmpR op_eq (pe_call (ok_Ldraw T O) (hr.mono (by decide)) (by rfl) O.m_Ldraw O.F_Ldraw.kp O.b_Ldraw .nil pass0 (pa_cons (pv 0) (pa_cons pe_int pa_nil))) pe_int (nomark _)) (pss_one (ps_set (i := 2) sc_Lsome_ends.nd rfl (Or.inl rfl) (pe_op op_cat (pv 2) (pe_slice (r := rSlL K) sl_list (pv 2) po_none (po_some (pe_op op_add pe_int (pe_call (ok_Ldraw T O) (hr.mono (by decide)) (by rfl) O.m_Ldraw O.F_Ldraw.kp O.b_Ldraw .nil pass0 (pa_cons (pv 0) (pa_cons pe_int pa_nil))))))))) pss_nil)
  (pss_one (ps_ret (pe_ifExp (pt_cmpR op_eq (pe_call (ok_Ldraw T O) (hr.mono (by decide)) (by rfl) O.m_Ldraw O.F_Ldraw.kp O.b_Ldraw .nil pass0 (pa_cons (pv 0) (pa_cons pe_int pa_nil))) pe_int (nomark _)) (pv 2) (pe_callTy (r := Jv.rTupOf K) call_tuple_of (by rfl) O.z_tuple (by decide +kernel) (pa_cons (pv 2) pa_nil)))))))))), ?_⟩
  walk_at "r"
  refine ⟨h, hl, 3, rfl, hh, ⟨by decide, Jv.log_small (by decide) (by decide)⟩, fun z H1 z0 z1 k1 h1 => ?_⟩
  walk_at "r"
  refine Jv.r_decI (fun _ => ?_) (fun _ => ?_)
  · walk_at "r"
    exact q _ .none H1 k1 h1 .non (.inl rfl)
  refine Jv.r_next ?_
  walk_at "r"
  intro a ha
  obtain ⟨na, _⟩ := h1.ne2 ha
  walk_at "r"
  refine ⟨Fd H h hl L 31, ?_, ?_⟩
  · refine Jv.r_for ?_
    walk_at "r"
    refine ⟨_, rfl, by omega, by omega, ?_⟩
    refine for_range (lo := 0) (n := ((L : Int) + 1).toNat) (fun i σ H' => Fd H h hl L i σ H') ⟨⟨a, [], _, _, rfl, upd_same, na, by simp, by simp⟩, k1.trans (Jv.Kp.new ha), h1.same (Jv.same_new ha)⟩ ?_ ?_
    · rintro i σ H2 hi ⟨⟨b, ns, y3, y4, rfl, hb, nb, bd, ln⟩, k2, h2⟩
      have hi2 : i ≤ L := by omega
      walk_at "r"
      refine dr h2 (by decide) (by decide) fun z H3 z0 z1 k3 h3 => ?_
      have hb3 := k3 _ _ nb hb
      walk_at "r"
      refine Jv.r_dec (fun _ => ?_) (fun _ => ?_)
      · walk_at "r"
        refine Jv.r_decI (fun _ => ?_) (fun _ => ?_)
        · walk_at "r"
          intro p hp
          obtain ⟨np, _⟩ := h3.ne2 hp
          have s4 := Jv.same_new (u := .lst [.int (0 + (i : Nat))]) hp
          walk_at "r"
          refine Jv.r_cat upd_same (s4 _ _ hb3) (by simp; omega) fun c H5 hc s5 e5 => ?_
          obtain ⟨nc, _⟩ := (h3.same s4).ne2 hc
          refine ⟨⟨c, (0 + (i : Nat)) :: ns, _, _, rfl, e5, nc, fun z hz => ?_, by simp; omega⟩, (k2.trans k3).trans (Jv.Kp.same (s4.trans s5)), h3.same (s4.trans s5)⟩
          rcases List.mem_cons.mp hz with rfl | hz
          · omega
          · exact bd z hz
        · walk_at "r"
          intro p hp
          obtain ⟨np, _⟩ := h3.ne2 hp
          have s4 := Jv.same_new (u := .lst [.int (0 + (i : Nat))]) hp
          walk_at "r"
          refine Jv.r_cat (s4 _ _ hb3) upd_same (by simp; omega) fun c H5 hc s5 e5 => ?_
          obtain ⟨nc, _⟩ := (h3.same s4).ne2 hc
          refine ⟨⟨c, ns ++ [(0 + (i : Nat) : Int)], _, _, rfl, by rw [e5, List.map_append]; rfl, nc, fun z hz => ?_, by simp; omega⟩, (k2.trans k3).trans (Jv.Kp.same (s4.trans s5)), h3.same (s4.trans s5)⟩
          rcases List.mem_append.mp hz with hz | hz
          · exact bd z hz
          · rw [List.mem_singleton.mp hz]; omega
      · exact ⟨⟨b, ns, _, _, rfl, hb3, nb, bd, by omega⟩, k2.trans k3, h3⟩
    · rintro σ H2 ⟨⟨b, ns, y3, y4, rfl, hb, nb, bd, ln⟩, k2, h2⟩
      exact ⟨⟨b, ns, y3, y4, rfl, hb, nb, bd, by omega⟩, k2, h2⟩
  · rintro σ H2 ⟨⟨b, ns, y3, y4, rfl, hb, nb, bd, ln⟩, k2, h2⟩
    refine ⟨Fd H h hl L 31, ?_, ?_⟩
    · walk_at "r"
      intro p hp
      have s3 := Jv.same_new (u := .lst []) hp
      refine ⟨.list (ns.map .int), .list [], (Jv.Dv.lst (s3 _ _ hb) (Jv.dv_ints ns)).dp, (Jv.Dv.lst upd_same .nil).dp, (shaped_ints ns).1, (shaped_ints []).1, ?_⟩
      walk_at "r"
      have kk := k2.trans (Jv.Kp.same s3)
      have hh3 := h2.same s3
      have hb3 := s3 _ _ hb
      refine Jv.r_bool (fun _ => ?_) (fun _ => ?_)
      · walk_at "r"
        refine dr hh3 (by decide) (by decide) fun z H3 z0 z1 k3 h3 => ?_
        walk_at "r"
        refine Jv.r_dec (fun _ => ?_) (fun _ => ?_)
        · walk_at "r"
          refine dr h3 (by omega) (by omega) fun y H4 y0 y1 k4 h4 => ?_
          walk_at "r"
          intro c hc
          obtain ⟨nc, _⟩ := h4.ne2 hc
          refine ⟨⟨c, [y], _, _, rfl, upd_same, nc, fun z hz => ?_, by simp⟩, ((kk.trans k3).trans k4).trans (Jv.Kp.new hc), h4.same (Jv.same_new hc)⟩
          rw [List.mem_singleton.mp hz]; omega
        · exact ⟨⟨b, ns, _, _, rfl, k3 _ _ nb hb3, nb, bd, ln⟩, kk.trans k3, h3⟩
      · walk_at "r"
        exact ⟨⟨b, ns, _, _, rfl, hb3, nb, bd, ln⟩, kk, hh3⟩
    · rintro σ H2 ⟨⟨b, ns, y3, y4, rfl, hb, nb, bd, ln⟩, k2, h2⟩
      refine ⟨Fd H h hl L 70, ?_, ?_⟩
      · walk_at "r"
        refine dr h2 (by decide) (by decide) fun z H3 z0 z1 k3 h3 => ?_
        have hb3 := k3 _ _ nb hb
        walk_at "r"
        refine Jv.r_decI (fun _ => ?_) (fun _ => ?_)
        · walk_at "r"
          refine Jv.r_tSl ?_
          walk_at "r"
          refine Jv.r_noPart (Jv.r_part ?_)
          walk_at "r"
          refine dr h3 (by decide) (by decide) fun y H4 y0 y1 k4 h4 => ?_
          have hb4 := k4 _ _ nb hb3
          walk_at "r"
          refine Jv.r_partI ?_
          refine Jv.r_slL hb4 fun p5 H5 hp5 s5 e5 => ?_
          rw [Jv.cut_take (by omega), ← List.map_take] at e5
          refine Jv.r_cat (s5 _ _ hb4) e5 (by simp; omega) fun c H6 hc s6 e6 => ?_
          obtain ⟨nc, _⟩ := (h4.same s5).ne2 hc
          refine ⟨⟨c, ns ++ ns.take (1 + y).toNat, _, _, rfl, by rw [e6, List.map_append], nc, fun z hz => ?_, by simp; omega⟩, ((k2.trans k3).trans k4).trans (Jv.Kp.same (s5.trans s6)), h4.same (s5.trans s6)⟩
          rcases List.mem_append.mp hz with hz | hz
          · exact bd z hz
          · exact bd z (List.mem_of_mem_take hz)
        · exact ⟨⟨b, ns, _, _, rfl, hb3, nb, bd, by omega⟩, k2.trans k3, h3⟩
      · rintro σ H2 ⟨⟨b, ns, y3, y4, rfl, hb, nb, bd, ln⟩, k2, h2⟩
        walk_at "r"
        refine dr h2 (by decide) (by decide) fun z H3 z0 z1 k3 h3 => ?_
        have hb3 := k3 _ _ nb hb
        walk_at "r"
        refine Jv.r_decI (fun _ => ?_) (fun _ => ?_)
        · walk_at "r"
          exact q _ (.list (ns.map .int)) H3 (k2.trans k3) h3 (.lst (Jv.hide_one nb hb3) (Jv.dv_ints ns)) (.inr ⟨ns, rfl, bd, ln⟩)
        · walk_at "r"
          refine Jv.r_tupOfL (Jv.sqL_at hb3) fun t ht => ?_
          obtain ⟨nt, _⟩ := h3.ne2 ht
          exact q _ (.tuple (ns.map .int)) _ ((k2.trans k3).trans (Jv.Kp.new ht)) (h3.same (Jv.same_new ht)) (.tup (Jv.sqT_at (Jv.hide_one nt upd_same)) (Jv.dv_ints ns)) (.inr ⟨ns, rfl, bd, ln⟩)
theorem ok_Lsome_words (T : Tx) (O : Ok K mg T) : FnOk P w K mg base CX0 3 T.f_Lsome_words T.d_Lsome_words ["_law_hand_here", "_law_ladder"] (sp_Lsome_words K) := by
  refine O.F_Lsome_words.ok sc_Lsome_words (fun vs H Q E h => by obtain ⟨_, _, _, rfl, _⟩ := h; rfl) (fun cdv A outer s H vs Q E hr h => ?_)
  obtain ⟨h, hl, L, rfl, hh, hL, q⟩ := h
  refine ⟨_, (pss_cons (ps_set (i := 2) sc_Lsome_words.nd rfl (Or.inl rfl) (pe_call (ok_Ldraw T O) (hr.mono (by decide)) (by rfl) O.m_Ldraw O.F_Ldraw.kp O.b_Ldraw .nil pass0 (pa_cons (pv 0) (pa_cons pe_int pa_nil))))
  (pss_cons (ps_if (pt_cmpR op_lt (pv 2) pe_int (nomark _)) (pss_one (ps_ret pe_non)) pss_nil)
  (pss_cons (ps_if (pt_cmpR op_eq (pv 2) pe_int (nomark _)) (pss_one (ps_ret (pe_op op_add (pe_op op_pow pe_int pe_int) (pe_call (ok_Ldraw T O) (hr.mono (by decide)) (by rfl) O.m_Ldraw O.F_Ldraw.kp O.b_Ldraw .nil pass0 (pa_cons (pv 0) (pa_cons pe_int pa_nil)))))) pss_nil)
  (pss_one (ps_ret (pe_op op_add pe_int (pe_call (ok_Ldraw T O) (hr.mono (by decide)) (by rfl) O.m_Ldraw O.F_Ldraw.kp O.b_Ldraw .nil pass0 (pa_cons (pv 0) (pa_cons (pe_op op_add (pv 1) pe_int) pa_nil))))))))), ?_⟩
  walk_at "r"
  refine ⟨h, hl, 8, rfl, hh, ⟨by decide, Jv.log_small (by decide) (by decide)⟩, fun z H1 z0 z1 k1 h1 => ?_⟩
  walk_at "r"
  refine Jv.r_dec (fun _ => ?_) (fun _ => ?_)
  · walk_at "r"
    exact q _ .none H1 k1 h1 (fun _ => .non) (.inl rfl)
  · walk_at "r"
    refine Jv.r_decI (fun _ => ?_) (fun _ => ?_)
    · walk_at "r"
      refine ⟨h, hl, 100, rfl, h1, ⟨by decide, Jv.log_small (by decide) (by decide)⟩, fun y H2 y0 y1 k2 h2 => ?_⟩
      walk_at "r"
      have big : (1 : Int) ≤ 10 ^ Int.toNat 20 := by decide +kernel
      exact q _ _ H2 (k1.trans k2) h2 (fun _ => .int _) (.inr ⟨_, rfl, by omega⟩)
    · refine Jv.r_next ?_
      walk_at "r"
      refine ⟨h, hl, _, rfl, h1, ⟨by omega, Jv.log_small (by omega) (by omega)⟩, fun y H2 y0 y1 k2 h2 => ?_⟩
      walk_at "r"
      exact q _ _ H2 (k1.trans k2) h2 (fun _ => .int _) (.inr ⟨_, rfl, by omega⟩)
theorem ok_Lallowed (T : Tx) (O : Ok K mg T) : FnOk P w K mg base CX0 1 T.f_Lallowed T.d_Lallowed ["_law_ladder", "_law_limits"] (sp_Lallowed K) := by
  refine O.F_Lallowed.ok sc_Lallowed (fun vs H Q E h => by obtain ⟨_, _, _, rfl, _⟩ := h; rfl) (fun cdv A outer s H vs Q E hr h => ?_)
  obtain ⟨L, v, d, rfl, hv, hE, hL, q⟩ := h
  refine ⟨_, (pss_one (ps_ret (pe_lc (own := [("_law_stood", 2)]) (by rfl) sc_Lallowed.nd (pi_range1 (by rfl) O.z_range (pa_cons (pe_op op_add (pv 0) pe_int) pa_nil)) (blkOk_by (own := [("_law_stood", 2)]) (N := ["_law_ladder", "_law_limits", "_law_stood"]) (sc := defScope s_Lallowed) (scope := ({ kind := .function, names := [(".0", .local), ("_law_stood", .local), ("_law_limits", .free)], isGenerator := false, isCoroutine := false } : Scope)) (by decide +kernel)) (fun _ _ _ _ _ => (pg_name (i := 2) sc_Lallowed.nd rfl (Or.inl rfl))) (fun _ _ _ _ _ => pts_nil) (fun _ _ _ _ _ => (pe_or (pe_cmpR op_isN (pv 1) pe_non (nomark _)) (pe_one (pe_cmpR (r := rIn K false) op_in_seq (pv 2) (pv 1) rfl))))))), ?_⟩
  walk_at "r"
  rcases hE with rfl | ⟨ns, e, h1, h2⟩
  · cases hv
    refine Jv.lcFn (n := L + 1) (fun PP hP => by walk_at "r"; exact hP) (by omega) (fun i => V.bl true) (by omega) (fun i H3 hi s3 PP hP => ?_) (fun D2 H3 s3 hD2 e3 => ?_)
    · walk_at "r"
      exact hP _ (Same.refl _)
    · walk_at "r"
      refine q _ D2 H3 (.inl ⟨rfl, rfl⟩) s3 hD2 ?_
      rw [e3, List.map_replicate]
      congr 2
      exact List.eq_replicate_iff.mpr ⟨by simp, fun b hb => by obtain ⟨_, _, rfl⟩ := List.mem_map.mp hb; rfl⟩
  · obtain ⟨xs, sk, al⟩ := hv.sk e
    obtain rfl := Jv.dv_intsV al
    have nv : v ≠ .non := fun z => by obtain ⟨_, e, _⟩ := sk; rw [z] at e; cases e
    refine Jv.lcFn (n := L + 1) (fun PP hP => by walk_at "r"; exact hP) (by omega) (fun i => V.bl (decide ((i : Int) ∈ ns))) (by omega) (fun i H3 hi s3 PP hP => ?_) (fun D2 H3 s3 hD2 e3 => ?_)
    · walk_at "r"
      rw [decide_eq_false nv]
      walk_at "r"
      refine Jv.r_in (sk.same s3) ?_
      exact hP _ (Same.refl _)
    · walk_at "r"
      refine q _ D2 H3 (.inr ⟨ns, e, h1, by omega, rfl⟩) s3 hD2 ?_
      rw [e3, List.map_map]; rfl
end
end K35

namespace K35
open PySem PySem.Spec PyProof.Rows L2
/-! ### the law's own counts -/
def blV (A : List Bool) : List V := A.map V.bl
theorem blV_get {A : List Bool} {i : Nat} (h : i < A.length) : (blV A)[i]? = some (.bl (A.getD i false)) := by
  unfold blV
  rw [List.getElem?_map, List.getD_eq_getElem?_getD, List.getElem?_eq_getElem h]; rfl
theorem blV_len {A : List Bool} : (blV A).length = A.length := by unfold blV; simp
theorem lv_get {f : List Bool → Int} {A : List Bool} {i : Nat} (h : i < A.length) : ((lv f A).map V.int)[i]? = some (.int (f (A.drop i))) := by
  rw [List.getElem?_map, lv_at h]; rfl
def sp_Llevel (K : PySem.W.Frag) : Sp := fun vs H Q _ => ∃ (a b c : Addr) (A : List Bool) (n : Nat), vs = [.ref a, .ref b, .ref c] ∧ H a = some (.lst (blV A)) ∧ H b = some (.lst ((lv (tT n) A).map V.int)) ∧ H c = some (.lst ((lv (tS n) A).map V.int)) ∧ A.length ≤ 31 ∧
  ∀ (t u v : Addr) H', Same H H' → H' t = some (.lst [.ref u, .ref v]) → H' u = some (.lst ((lv (tT (n + 1)) A).map V.int)) → H' v = some (.lst ((lv (tS (n + 1)) A).map V.int)) → Q (.ref t) H'
def sp_Lfree (K : PySem.W.Frag) : Sp := fun vs H Q _ => ∃ (a : Addr) (A : List Bool), vs = [.ref a] ∧ H a = some (.lst (blV A)) ∧ A.length ≤ 31 ∧
  ∀ (t u v : Addr) H', Same H H' → H' t = some (.lst [.ref u, .ref v]) → H' v = some (.lst ((TSf A).2.map V.int)) → Q (.ref t) H'
theorem r_own {b : Bool} {σ : L2.St} {H : Hp} {Q : VK} (q : Q (.int (own b)) H) : if b = true then tC (.int 1) σ H Q else tC (.int 0) σ H Q := by cases b <;> exact q
theorem r_ifx {c : Bool} {ta tb : TE} {σ : L2.St} {H : Hp} {Q : VK} (v : V) (h1 : c = true → ∀ Q' : VK, Q' v H → ta σ H Q') (h2 : c = false → ∀ Q' : VK, Q' v H → tb σ H Q') (q : Q v H) : if c = true then ta σ H Q else tb σ H Q := by
  cases c
  · exact h2 rfl _ q
  · exact h1 rfl _ q
section
variable {P : Program} {w : World} {K : PySem.W.Frag} {mg : Str → Option Value} {base : Heap}
theorem ok_Llevel (T : Tx) (O : Ok K mg T) : FnOk P w K mg base CX0 1 T.f_Llevel T.d_Llevel ["_law_allowed_here", "_law_told", "_law_asked"] (sp_Llevel K) := by
  refine O.F_Llevel.ok sc_Llevel (fun vs H Q E h => by obtain ⟨_, _, _, _, _, rfl, _⟩ := h; rfl) (fun cdv A0 outer s H vs Q E hr h => ?_)
  obtain ⟨a, b, c, A, n, rfl, ha, hb, hc, few, q⟩ := h
  refine ⟨_, (pss_cons (ps_set (i := 3) sc_Llevel.nd rfl (Or.inl rfl) (pe_lst pa_nil))
  (pss_cons (ps_set (i := 4) sc_Llevel.nd rfl (Or.inl rfl) (pe_lst pa_nil))
  (pss_cons (ps_set (i := 5) sc_Llevel.nd rfl (Or.inl rfl) pe_int)
  (pss_cons (ps_set (i := 6) sc_Llevel.nd rfl (Or.inl rfl) pe_int)
  (pss_cons (ps_for PassesOwn.never rfl (pi_range1 (by rfl) O.z_range (pa_cons (pe_callB (r := Jv.rLenK K) Jv.cr_len (by rfl) O.z_len (by decide +kernel) (pa_cons (pv 0) pa_nil)) pa_nil)) (pg_name (i := 7) sc_Llevel.nd rfl (Or.inl rfl)) (pss_cons (ps_set (i := 8) sc_Llevel.nd rfl (Or.inl rfl) (pe_op op_sub (pe_op op_sub (pe_callB (r := Jv.rLenK K) Jv.cr_len (by rfl) O.z_len (by decide +kernel) (pa_cons (pv 0) pa_nil)) pe_int) (pv 7)))
  (pss_cons (ps_set (i := 9) sc_Llevel.nd rfl (Or.inl rfl) (pe_ifExp (pt_val (pe_ix (r := rIxL K) ix_list (pv 0) (pv 8) (fun _ _ => rfl))) pe_int pe_int))
  (pss_cons (ps_set (i := 3) sc_Llevel.nd rfl (Or.inl rfl) (pe_op op_cat (pe_lst (pa_cons (pe_op op_add (pv 9) (pv 5)) pa_nil)) (pv 3)))
  (pss_cons (ps_set (i := 4) sc_Llevel.nd rfl (Or.inl rfl) (pe_op op_cat (pe_lst (pa_cons (pe_ifExp (pt_cmpR op_gt (pv 6) (pv 9) (nomark _)) (pv 6) (pv 9)) pa_nil)) (pv 4)))
  (pss_cons (ps_set (i := 5) sc_Llevel.nd rfl (Or.inl rfl) (pe_op op_add (pv 5) (pe_ix (r := rIxL K) ix_list (pv 2) (pv 8) (fun _ _ => rfl))))
  (pss_one (ps_set (i := 6) sc_Llevel.nd rfl (Or.inl rfl) (pe_ifExp (pt_cmpR op_gt (pe_ix (r := rIxL K) ix_list (pv 1) (pv 8) (fun _ _ => rfl)) (pv 6) (nomark _)) (pe_ix (r := rIxL K) ix_list (pv 1) (pv 8) (fun _ _ => rfl)) (pv 6))))))))))
  (pss_one (ps_ret (pe_lst (pa_cons (pv 3) (pa_cons (pv 4) pa_nil)))))))))), ?_⟩
  walk_at "r"
  intro p1 hp1
  have s1 := Jv.same_new (u := .lst []) hp1
  walk_at "r"
  intro p2 hp2
  have s2 := Jv.same_new (u := .lst []) hp2
  have e1 := s2 _ _ (upd_same (H := H) (a := p1) (o := HO.lst []))
  walk_at "r"
  rw [blV_len]
  refine ⟨_, rfl, by omega, by omega, ?_⟩
  refine for_range (lo := 0) (n := ((A.length : Nat) : Int).toNat) (fun i σ H' => ∃ (u v : Addr) (y7 y8 y9 : Option V), σ = [some (.ref a), some (.ref b), some (.ref c), some (.ref u), some (.ref v), some (.int (lv (tS n) (A.drop (A.length - i))).sum), some (.int (mx 0 (lv (tT n) (A.drop (A.length - i))))), y7, y8, y9] ∧ Same H H' ∧
      H' u = some (.lst ((lv (tT (n + 1)) (A.drop (A.length - i))).map V.int)) ∧ H' v = some (.lst ((lv (tS (n + 1)) (A.drop (A.length - i))).map V.int)))
    ⟨p1, p2, _, _, _, by rw [Nat.sub_zero, List.drop_length]; rfl, s1.trans s2, by rw [Nat.sub_zero, List.drop_length]; exact e1, by rw [Nat.sub_zero, List.drop_length]; exact upd_same⟩ ?_ ?_
  · rintro i σ H2 hi ⟨u, v, y7, y8, y9, rfl, s3, hu, hv⟩
    have hi2 : i < A.length := by omega
    obtain ⟨k, hk⟩ : ∃ k, k = A.length - 1 - i := ⟨_, rfl⟩
    have ek : A.length - i = k + 1 := by omega
    have ek2 : A.length - (i + 1) = k := by omega
    have hkA : k < A.length := by omega
    have ev : ((A.length : Nat) : Int) - 1 - (0 + (i : Nat)) = (k : Nat) := by omega
    rw [ek] at hu hv
    rw [ek, ek2, getD_drop hkA]
    have ha2 := s3 _ _ ha
    have hb2 := s3 _ _ hb
    have hc2 := s3 _ _ hc
    walk_at "r"
    rw [blV_len, ev]
    refine Jv.r_ixL (Jv.sqL_at ha2) (Jv.at_i (by omega) (by rw [Int.toNat_natCast]; exact blV_get hkA)) ?_
    walk_at "r"
    refine r_own ?_
    walk_at "r"
    intro p3 hp3
    have n3 := Jv.same_new (u := .lst [.int (own (A.getD k false) + (lv (tS n) (A.drop (k + 1))).sum)]) hp3
    have hu3 := n3 _ _ hu
    have hv3 := n3 _ _ hv
    have e3 : upd H2 p3 (.lst [.int (own (A.getD k false) + (lv (tS n) (A.drop (k + 1))).sum)]) p3 = some (.lst [.int (own (A.getD k false) + (lv (tS n) (A.drop (k + 1))).sum)]) := upd_same
    generalize upd H2 p3 (.lst [.int (own (A.getD k false) + (lv (tS n) (A.drop (k + 1))).sum)]) = H3 at n3 hu3 hv3 e3 ⊢
    walk_at "r"
    refine Jv.r_cat e3 hu3 (by simp [lv_len]; omega) fun u4 H4 hu4 s4 e4 => ?_
    walk_at "r"
    refine r_ifx (.int (mx (own (A.getD k false)) (lv (tT n) (A.drop (k + 1))))) (fun c Q' k' => ?_) (fun c Q' k' => ?_) ?_
    · rw [(mx_up (own_01 _).1).1 (of_decide_eq_true c)] at k'
      walk_at "r"
      exact k'
    · rw [(mx_up (own_01 _).1).2 (of_decide_eq_false c)] at k'
      walk_at "r"
      exact k'
    walk_at "r"
    intro p5 hp5
    have n5 := Jv.same_new (u := .lst [.int (mx (own (A.getD k false)) (lv (tT n) (A.drop (k + 1))))]) hp5
    have e5 : upd H4 p5 (.lst [.int (mx (own (A.getD k false)) (lv (tT n) (A.drop (k + 1))))]) p5 = some (.lst [.int (mx (own (A.getD k false)) (lv (tT n) (A.drop (k + 1))))]) := upd_same
    have hv5 := n5 _ _ (s4 _ _ hv3)
    have e4' := n5 _ _ e4
    have s5 := n3.trans (s4.trans n5)
    generalize upd H4 p5 (.lst [.int (mx (own (A.getD k false)) (lv (tT n) (A.drop (k + 1))))]) = H5 at n5 e5 hv5 e4' s5 ⊢
    walk_at "r"
    refine Jv.r_cat e5 hv5 (by simp [lv_len]; omega) fun v6 H6 hv6 s6 e6 => ?_
    have s7 := s5.trans s6
    walk_at "r"
    refine Jv.r_ixL (Jv.sqL_at (s7 _ _ hc2)) (Jv.at_i (by omega) (by rw [Int.toNat_natCast]; exact lv_get hkA)) ?_
    walk_at "r"
    refine Jv.r_ixL (Jv.sqL_at (s7 _ _ hb2)) (Jv.at_i (by omega) (by rw [Int.toNat_natCast]; exact lv_get hkA)) ?_
    walk_at "r"
    refine r_ifx (.int (mx 0 (lv (tT n) (A.drop k)))) (fun c Q' k' => ?_) (fun c Q' k' => ?_) ?_
    · walk_at "r"
      refine Jv.r_ixL (Jv.sqL_at (s7 _ _ hb2)) (Jv.at_i (by omega) (by rw [Int.toNat_natCast]; exact lv_get hkA)) ?_
      rw [getD_drop hkA] at c k' ⊢
      simp only [lv, mx] at k'
      rw [if_pos (of_decide_eq_true c)] at k'
      exact k'
    · walk_at "r"
      rw [getD_drop hkA] at c k'
      simp only [lv, mx] at k'
      rw [if_neg (of_decide_eq_false c)] at k'
      exact k'
    rw [Int.add_comm (lv (tS n) (A.drop (k + 1))).sum, getD_drop hkA]
    exact ⟨u4, v6, _, _, _, rfl, s3.trans s7, s6 _ _ e4', e6⟩
  · rintro σ H2 ⟨u, v, y7, y8, y9, rfl, s3, hu, hv⟩
    rw [Int.toNat_natCast, Nat.sub_self, List.drop_zero] at hu hv
    walk_at "r"
    intro t ht
    exact q t u v _ (s3.trans (Jv.same_new ht)) upd_same (Jv.same_new ht _ _ hu) (Jv.same_new ht _ _ hv)
theorem ok_Lfree (T : Tx) (O : Ok K mg T) : FnOk P w K mg base CX0 1 T.f_Lfree T.d_Lfree ["_law_allowed_here"] (sp_Lfree K) := by
  refine O.F_Lfree.ok sc_Lfree (fun vs H Q E h => by obtain ⟨_, _, rfl, _⟩ := h; rfl) (fun cdv A0 outer s H vs Q E hr h => ?_)
  obtain ⟨a, A, rfl, ha, few, q⟩ := h
  refine ⟨_, (pss_cons (ps_set (i := 1) sc_Lfree.nd rfl (Or.inl rfl) (pe_lst pa_nil))
  (pss_cons (ps_set (i := 2) sc_Lfree.nd rfl (Or.inl rfl) (pe_lst pa_nil))
  (pss_cons (ps_for PassesOwn.never rfl (pi_range1 (by rfl) O.z_range (pa_cons (pe_callB (r := Jv.rLenK K) Jv.cr_len (by rfl) O.z_len (by decide +kernel) (pa_cons (pv 0) pa_nil)) pa_nil)) (pg_name (i := 3) sc_Lfree.nd rfl (Or.inl rfl)) (pss_cons (ps_set (i := 4) sc_Lfree.nd rfl (Or.inl rfl) (pe_ifExp (pt_val (pe_ix (r := rIxL K) ix_list (pv 0) (pe_op op_sub (pe_op op_sub (pe_callB (r := Jv.rLenK K) Jv.cr_len (by rfl) O.z_len (by decide +kernel) (pa_cons (pv 0) pa_nil)) pe_int) (pv 3)) (fun _ _ => rfl))) pe_int pe_int))
  (pss_cons (ps_set (i := 5) sc_Lfree.nd rfl (Or.inl rfl) (pe_op op_add (pv 4) (pe_callB (r := rSum K) (cr_sum rfl) (by rfl) O.z_sum (by decide +kernel) (pa_cons (pv 2) pa_nil))))
  (pss_cons (ps_set (i := 2) sc_Lfree.nd rfl (Or.inl rfl) (pe_op op_cat (pe_lst (pa_cons (pe_callB (r := rMax K) (cr_max rfl) (by rfl) O.z_max (by decide +kernel) (pa_cons (pe_op op_cat (pe_lst (pa_cons (pv 4) pa_nil)) (pv 1)) pa_nil)) pa_nil)) (pv 2)))
  (pss_one (ps_set (i := 1) sc_Lfree.nd rfl (Or.inl rfl) (pe_op op_cat (pe_lst (pa_cons (pv 5) pa_nil)) (pv 1))))))))
  (pss_one (ps_ret (pe_lst (pa_cons (pv 1) (pa_cons (pv 2) pa_nil)))))))), ?_⟩
  walk_at "r"
  intro p1 hp1
  have s1 := Jv.same_new (u := .lst []) hp1
  walk_at "r"
  intro p2 hp2
  have s2 := Jv.same_new (u := .lst []) hp2
  have e1 := s2 _ _ (upd_same (H := H) (a := p1) (o := HO.lst []))
  walk_at "r"
  rw [blV_len]
  refine ⟨_, rfl, by omega, by omega, ?_⟩
  refine for_range (lo := 0) (n := ((A.length : Nat) : Int).toNat) (fun i σ H' => ∃ (u v : Addr) (y7 y8 y9 : Option V), σ = [some (.ref a), some (.ref u), some (.ref v), y7, y8, y9] ∧ Same H H' ∧
      H' u = some (.lst ((TSf (A.drop (A.length - i))).1.map V.int)) ∧ H' v = some (.lst ((TSf (A.drop (A.length - i))).2.map V.int)))
    ⟨p1, p2, _, _, _, rfl, s1.trans s2, by rw [Nat.sub_zero, List.drop_length]; exact e1, by rw [Nat.sub_zero, List.drop_length]; exact upd_same⟩ ?_ ?_
  · rintro i σ H2 hi ⟨u, v, y7, y8, y9, rfl, s3, hu, hv⟩
    have hi2 : i < A.length := by omega
    obtain ⟨k, hk⟩ : ∃ k, k = A.length - 1 - i := ⟨_, rfl⟩
    have ek : A.length - i = k + 1 := by omega
    have ek2 : A.length - (i + 1) = k := by omega
    have hkA : k < A.length := by omega
    have ev : ((A.length : Nat) : Int) - 1 - (0 + (i : Nat)) = (k : Nat) := by omega
    rw [ek] at hu hv
    rw [ek2, getD_drop hkA]
    have ha2 := s3 _ _ ha
    have few3 := TSf_len (bs := A.drop (k + 1))
    have few4 : (A.drop (k + 1)).length ≤ 31 := by rw [List.length_drop]; omega
    walk_at "r"
    rw [blV_len, ev]
    refine Jv.r_ixL (Jv.sqL_at ha2) (Jv.at_i (by omega) (by rw [Int.toNat_natCast]; exact blV_get hkA)) ?_
    walk_at "r"
    refine r_own ?_
    walk_at "r"
    refine ⟨v, _, rfl, Jv.sqL_at hv, ?_⟩
    walk_at "r"
    intro p3 hp3
    have n3 := Jv.same_new (u := .lst [.int (own (A.getD k false))]) hp3
    walk_at "r"
    refine Jv.r_cat upd_same (n3 _ _ hu) (by simp; omega) fun u4 H4 hu4 s4 e4 => ?_
    walk_at "r"
    refine ⟨u4, own (A.getD k false) :: (TSf (A.drop (k + 1))).1, rfl, Jv.sqL_at e4, by simp, fun mm h1 h2 => ?_⟩
    obtain rfl := mx_is h1 h2
    walk_at "r"
    intro p5 hp5
    have n5 := Jv.same_new (u := .lst [.int (mx (own (A.getD k false)) (TSf (A.drop (k + 1))).1)]) hp5
    have s5 := (n3.trans s4).trans n5
    walk_at "r"
    refine Jv.r_cat upd_same (s5 _ _ hv) (by simp; omega) fun v6 H6 hv6 s6 e6 => ?_
    walk_at "r"
    intro p7 hp7
    have n7 := Jv.same_new (u := .lst [.int (own (A.getD k false) + (TSf (A.drop (k + 1))).2.sum)]) hp7
    have s7 := (s5.trans s6).trans n7
    walk_at "r"
    refine Jv.r_cat upd_same (s7 _ _ hu) (by simp; omega) fun u8 H8 hu8 s8 e8 => ?_
    exact ⟨u8, v6, _, _, _, rfl, (s3.trans s7).trans s8, e8, s8 _ _ (n7 _ _ e6)⟩
  · rintro σ H2 ⟨u, v, y7, y8, y9, rfl, s3, hu, hv⟩
    rw [Int.toNat_natCast, Nat.sub_self, List.drop_zero] at hu hv
    walk_at "r"
    intro t ht
    exact q t u v _ (s3.trans (Jv.same_new ht)) upd_same (Jv.same_new ht _ _ hv)
end
/-! ### the bound on words -/
def LvOk (A : List Bool) (o : Option Nat) (n : Nat) : Prop := match o with
  | none => A.length ≤ n + 1
  | some k => n = k ∨ (A.length ≤ k + 1 ∧ A.length ≤ n + 1)
def oV : Option Nat → V
  | none => .non
  | some k => .int k
theorem lvok {A : List Bool} {m n st : Nat} (h : m = n ∨ (A.length ≤ m + 1 ∧ A.length ≤ n + 1)) : lv (tS m) (A.drop (st + 1)) = lv (tS n) (A.drop (st + 1)) := by
  rcases h with rfl | ⟨h1, h2⟩
  · rfl
  · rw [(stab (bs := A.drop (st + 1)) (m := m) (by rw [List.length_drop]; omega)).2, (stab (bs := A.drop (st + 1)) (m := n) (by rw [List.length_drop]; omega)).2]
def sp_Lcounts (K : PySem.W.Frag) : Sp := fun vs H Q _ => ∃ (a : Addr) (A : List Bool) (o : Option Nat), vs = [.ref a, oV o] ∧ H a = some (.lst (blV A)) ∧ A.length ≤ 31 ∧
  ∀ (t u v : Addr) (xs : List Int) H', Same H H' → H' t = some (.lst [.ref u, .ref v]) → H' v = some (.lst (xs.map V.int)) → xs.length = A.length → (∀ n st, LvOk A o n → xs.drop (st + 1) = lv (tS n) (A.drop (st + 1))) → Q (.ref t) H'
def sp_Lsplit (K : PySem.W.Frag) : Sp := fun vs H Q _ => ∃ (a : Addr) (A : List Bool) (v : V) (d : PyData) (L m st : Nat), vs = [.ref a, v, .int st] ∧ H a = some (.lst (blV A)) ∧ A.length = L + 1 ∧ L ≤ 30 ∧ st ≤ L ∧ Jv.Dv K H v d ∧ WordsOf d L m ∧
  ∀ (t : Addr) H', Same H H' → H' t = some (.lst ((due A (m - 1) st).map V.int)) → Q (.ref t) H'
section
variable {P : Program} {w : World} {K : PySem.W.Frag} {mg : Str → Option Value} {base : Heap}
theorem ok_Lcounts (T : Tx) (O : Ok K mg T) : FnOk P w K mg base CX0 2 T.f_Lcounts T.d_Lcounts ["_law_allowed_here", "_law_most"] (sp_Lcounts K) := by
  refine O.F_Lcounts.ok sc_Lcounts (fun vs H Q E h => by obtain ⟨_, _, _, rfl, _⟩ := h; rfl) (fun cdv A0 outer s H vs Q E hr h => ?_)
  obtain ⟨a, A, o, rfl, ha, few, q⟩ := h
  refine ⟨_, (pss_cons (ps_set (i := 2) sc_Lcounts.nd rfl (Or.inl rfl) (pe_op op_add (pe_callB (r := Jv.rLenK K) Jv.cr_len (by rfl) O.z_len (by decide +kernel) (pa_cons (pv 0) pa_nil)) pe_int))
  (C8.pss_cut (ps_if (PW.pt (pw_and (pt_cmpR op_gt (pv 2) pe_int (nomark _)) (pw_and1 (PW.pt (pw_or (pt_cmpR op_isN (pv 1) pe_non (nomark _)) (pw_or1 (pt_cmpR op_ge (pv 1) (pv 2) (nomark _)))))))) (pss_one (ps_ret (pe_call (ok_Lfree T O) (hr.mono (by decide)) (by rfl) O.m_Lfree O.F_Lfree.kp O.b_Lfree .nil pass0 (pa_cons (pv 0) pa_nil)))) pss_nil)
  (C8.pss_cut (ps_if (PW.pt (pw_and (pt_cmpR op_notN (pv 1) pe_non (nomark _)) (pw_and1 (pt_cmpR op_lt (pv 1) (pv 2) (nomark _))))) (pss_one (ps_set (i := 2) sc_Lcounts.nd rfl (Or.inl rfl) (pv 1))) pss_nil)
  (pss_cons (ps_setLc (i := 3) (own := [("_law_one", 6)]) (by rfl) sc_Lcounts.nd rfl rfl (sw_true rfl rfl rfl (by decide +kernel)) (show PI _ _ _ (iList K _) from pi_list (pv 0)) (blkOk_by (own := [("_law_one", 6)]) (N := ["_law_allowed_here", "_law_most", "_law_bound", "_law_told", "_law_asked", "_law_turn", "_law_one"]) (sc := defScope s_Lcounts) (scope := ({ kind := .function, names := [(".0", .local), ("_law_one", .local)], isGenerator := false, isCoroutine := false } : Scope)) (by decide +kernel)) (fun _ _ _ _ _ => (pg_name (i := 6) sc_Lcounts.nd rfl (Or.inl rfl))) (fun _ _ _ _ _ => pts_nil) (fun _ _ _ _ _ => pe_int))
  (pss_cons (ps_setLc (i := 4) (own := [("_law_one", 6)]) (by rfl) sc_Lcounts.nd rfl rfl (sw_true rfl rfl rfl (by decide +kernel)) (show PI _ _ _ (iList K _) from pi_list (pv 0)) (blkOk_by (own := [("_law_one", 6)]) (N := ["_law_allowed_here", "_law_most", "_law_bound", "_law_told", "_law_asked", "_law_turn", "_law_one"]) (sc := defScope s_Lcounts) (scope := ({ kind := .function, names := [(".0", .local), ("_law_one", .local)], isGenerator := false, isCoroutine := false } : Scope)) (by decide +kernel)) (fun _ _ _ _ _ => (pg_name (i := 6) sc_Lcounts.nd rfl (Or.inl rfl))) (fun _ _ _ _ _ => pts_nil) (fun _ _ _ _ _ => pe_int))
  (pss_cons (ps_for PassesOwn.never rfl (pi_range1 (by rfl) O.z_range (pa_cons (pv 2) pa_nil)) (pg_name (i := 5) sc_Lcounts.nd rfl (Or.inl rfl)) (pss_one (ps_asg (pe_call (ok_Llevel T O) (hr.mono (by decide)) (by rfl) O.m_Llevel O.F_Llevel.kp O.b_Llevel .nil pass0 (pa_cons (pv 0) (pa_cons (pv 3) (pa_cons (pv 4) pa_nil)))) (show PG _ _ (gLst K 2 _) from pg_lst rfl (pgs_cons (pg_name (i := 3) sc_Lcounts.nd rfl (Or.inl rfl)) (pgs_cons (pg_name (i := 4) sc_Lcounts.nd rfl (Or.inl rfl)) pgs_nil))))))
  (pss_one (ps_ret (pe_lst (pa_cons (pv 3) (pa_cons (pv 4) pa_nil))))))))))), ?_⟩
  walk_at "r"
  rw [blV_len]
  refine ⟨fun σ' H' => σ' = [some (.ref a), some (oV o), some (.int ((A.length : Nat) + 1)), none, none, none, none] ∧ H' = H, ?_, ?_⟩
  · walk_at "r"
    refine Jv.r_dec (fun hb => ?_) (fun hb => ?_)
    · walk_at "r"
      have free : ∀ (H1 : Hp) (Qr : VK), H1 = H → (∀ v H', Q v H' → Qr v H') → (∀ n st, LvOk A o n → A.length ≤ n + 1) → sp_Lfree K ([.ref a] ++ []) H1 Qr E0 := fun H1 Qr e1 hQ hn => by
        subst e1
        refine ⟨a, A, rfl, ha, few, fun t u v H2 s2 e2 e3 => hQ _ _ (q t u v _ H2 s2 e2 e3 TSf_len.2 fun n st ok => ?_)⟩
        have := hn n st ok
        rw [TSf_drop, (stab (bs := A.drop (st + 1)) (m := n) (by rw [List.length_drop]; omega)).2]
      cases o with
      | none =>
        walk_at "r"
        exact free H _ rfl (fun _ _ h => h) (fun n st ok => ok)
      | some k =>
        unfold oV
        walk_at "r"
        refine Jv.r_dec (fun hk => ?_) (fun hk => ?_)
        · walk_at "r"
          refine free H _ rfl (fun _ _ h => h) (fun n st ok => ?_)
          rcases ok with rfl | ⟨_, h⟩ <;> omega
        · walk_at "r"
          exact ⟨rfl, rfl⟩
    · walk_at "r"
      exact ⟨rfl, rfl⟩
  rintro σ H1 ⟨rfl, rfl⟩
  refine ⟨fun σ' H' => ∃ B : Nat, σ' = [some (.ref a), some (oV o), some (.int B), none, none, none, none] ∧ H' = H1 ∧ B ≤ 32 ∧ ∀ n, LvOk A o n → B = n ∨ (A.length ≤ B + 1 ∧ A.length ≤ n + 1), ?_, ?_⟩
  · walk_at "r"
    cases o with
    | none =>
      walk_at "r"
      exact ⟨A.length + 1, rfl, rfl, by omega, fun n ok => .inr ⟨by omega, ok⟩⟩
    | some k =>
      unfold oV
      walk_at "r"
      refine Jv.r_dec (fun hk => ?_) (fun hk => ?_)
      · walk_at "r"
        refine ⟨k, rfl, rfl, by omega, fun n ok => ?_⟩
        rcases ok with rfl | h
        · exact .inl rfl
        · exact .inr h
      · walk_at "r"
        refine ⟨A.length + 1, rfl, rfl, by omega, fun n ok => .inr ⟨by omega, ?_⟩⟩
        rcases ok with rfl | h <;> omega
  rintro σ H2 ⟨B, rfl, rfl, hB, hn⟩
  walk_at "r"
  refine Jv.lcFl (i := 0) (by rfl) (Jv.sqL_at ha) (fun _ => .int 0) (by rw [blV_len]; omega) (fun i v H3 hv s3 PP hP => ?_) (fun D3 H3 s3 hD3 e3 => ?_)
  · walk_at "r"
    exact hP _ (Same.refl _)
  walk_at "r"
  refine Jv.lcFl (i := 0) (by rfl) (Jv.sqL_at (s3 _ _ ha)) (fun _ => .int 0) (by rw [blV_len]; omega) (fun i v H4 hv s4 PP hP => ?_) (fun D4 H4 s4 hD4 e4 => ?_)
  · walk_at "r"
    exact hP _ (Same.refl _)
  have z : (List.range (blV A).length).map (fun _ => V.int 0) = (lv (tT 0) A).map V.int := by
    rw [blV_len, lv0, List.map_replicate]
    exact List.eq_replicate_iff.mpr ⟨by simp, fun b hb => by obtain ⟨_, _, rfl⟩ := List.mem_map.mp hb; rfl⟩
  rw [z] at e3 e4
  walk_at "r"
  refine ⟨_, rfl, by omega, by omega, ?_⟩
  refine for_range (lo := 0) (n := ((B : Nat) : Int).toNat) (fun i σ H' => ∃ (u v : Addr) (y5 : Option V), σ = [some (.ref a), some (oV o), some (.int B), some (.ref u), some (.ref v), y5, none] ∧ Same H2 H' ∧
      H' u = some (.lst ((lv (tT i) A).map V.int)) ∧ H' v = some (.lst ((lv (tS i) A).map V.int)))
    ⟨D3, D4, _, rfl, s3.trans s4, s4 _ _ e3, e4⟩ ?_ ?_
  · rintro i σ H5 hi ⟨u, v, y5, rfl, s5, hu, hv⟩
    walk_at "r"
    refine ⟨a, u, v, A, i, rfl, s5 _ _ ha, hu, hv, few, fun t u2 v2 H6 s6 e6 hu6 hv6 => ?_⟩
    refine ⟨t, _, rfl, Jv.sqL_at e6, rfl, ?_⟩
    walk_at "r"
    exact ⟨u2, v2, _, rfl, s5.trans s6, hu6, hv6⟩
  · rintro σ H5 ⟨u, v, y5, rfl, s5, hu, hv⟩
    rw [Int.toNat_natCast] at hu hv
    walk_at "r"
    intro t ht
    have s6 := Jv.same_new (u := .lst [.ref u, .ref v]) ht
    exact q t u v (lv (tS B) A) _ (s5.trans s6) upd_same (s6 _ _ hv) lv_len fun n st ok => by rw [lv_drop]; exact lvok (hn n ok)
theorem ok_Lsplit (T : Tx) (O : Ok K mg T) : FnOk P w K mg base CX0 3 T.f_Lsplit T.d_Lsplit ["_law_allowed_here", "_law_most", "_law_stood"] (sp_Lsplit K) := by
  refine O.F_Lsplit.ok sc_Lsplit (fun vs H Q E h => by obtain ⟨_, _, _, _, _, _, _, rfl, _⟩ := h; rfl) (fun cdv A0 outer s H vs Q E hr h => ?_)
  obtain ⟨a, A, v, d, L, m, st, rfl, ha, lA, hL, hst, dv, hw, q⟩ := h
  refine ⟨_, (C8.pss_cut (ps_set (i := 3) sc_Lsplit.nd rfl (Or.inl rfl) (pe_ifExp (pt_cmpR op_isN (pv 1) pe_non (nomark _)) pe_non (pe_op op_sub (pv 1) pe_int)))
  (pss_cons (ps_set (i := 4) sc_Lsplit.nd rfl (Or.inl rfl) (pe_ix (r := rIxL K) ix_list (pe_call (ok_Lcounts T O) (hr.mono (by decide)) (by rfl) O.m_Lcounts O.F_Lcounts.kp O.b_Lcounts .nil pass0 (pa_cons (pv 0) (pa_cons (pv 3) pa_nil))) pe_int (fun _ _ => rfl)))
  (pss_one (ps_ret (pe_op op_cat (pe_lst (pa_cons (pe_ifExp (pt_val (pe_ix (r := rIxL K) ix_list (pv 0) (pv 2) (fun _ _ => rfl))) pe_int pe_int) pa_nil)) (pe_slice (r := rSlL K) sl_list (pv 4) (po_some (pe_op op_add (pv 2) pe_int)) po_none)))))), ?_⟩
  refine ⟨fun σ' H' => ∃ o : Option Nat, σ' = [some (.ref a), some v, some (.int st), some (oV o), none] ∧ H' = H ∧ LvOk A o (m - 1), ?_, ?_⟩
  · rcases hw with ⟨rfl, rfl⟩ | ⟨w, rfl, w1, w2⟩
    · cases dv
      walk_at "r"
      exact ⟨none, rfl, rfl, show A.length ≤ L + 1 - 1 + 1 by omega⟩
    · cases dv
      obtain ⟨k, rfl⟩ : ∃ k : Nat, w = k + 1 := ⟨(w - 1).toNat, by omega⟩
      walk_at "r"
      refine ⟨some k, by rw [show ((k : Nat) : Int) + 1 - 1 = (k : Nat) by omega]; rfl, rfl, ?_⟩
      show m - 1 = k ∨ (A.length ≤ k + 1 ∧ A.length ≤ m - 1 + 1)
      split at w2 <;> omega
  rintro σ H1 ⟨o, rfl, rfl, ok⟩
  walk_at "r"
  refine ⟨a, A, o, rfl, ha, by omega, fun t u c xs H2 s2 e1 e2 ln hd => ?_⟩
  walk_at "r"
  refine Jv.r_ixL (Jv.sqL_at (s2 _ _ ha)) (Jv.at_i (by omega) (by rw [Int.toNat_natCast]; exact blV_get (by omega))) ?_
  walk_at "r"
  refine r_own ?_
  walk_at "r"
  intro p hp
  have s3 := Jv.same_new (u := .lst [.int (own (A.getD st false))]) hp
  refine Jv.r_tSl ?_
  walk_at "r"
  refine Jv.r_part ?_
  walk_at "r"
  refine Jv.r_partI (Jv.r_noPart ?_)
  refine Jv.r_slL (s3 _ _ e2) fun p5 H5 hp5 s5 e5 => ?_
  rw [Jv.cut_drop (by omega) (by rw [List.length_map, ln]; omega), show ((st : Nat) + 1 : Int).toNat = st + 1 by omega, ← List.map_drop, hd _ _ ok] at e5
  refine Jv.r_cat (s5 _ _ upd_same) e5 (by simp [lv_len]; omega) fun c2 H6 hc s6 e6 => ?_
  exact q c2 H6 (((s2.trans s3).trans s5).trans s6) e6
end
end K35

namespace K35
open PySem PySem.Spec PyProof.Rows L2
/-! ### all ways to give words to kinds -/
def sp_Ltold (K : PySem.W.Frag) (n : Nat) : Sp := fun vs H Q _ => ∃ (a lt : Addr) (A : List Bool) (m st : Nat) (zs : List Int), vs = [.ref a, .int m, .int st, .ref lt] ∧ H a = some (.lst (blV A)) ∧ H lt = some (.lst (zs.map V.int)) ∧ A.length ≤ 4 ∧ st < A.length ∧ 1 ≤ zs.length ∧ zs.length ≤ 4 ∧ m < n ∧
  ∀ H', Same H H' → Q (.bl (decide ((zs.length : Int) ≤ tT m (A.drop st)))) H'
def sp_Lasked (K : PySem.W.Frag) (n : Nat) : Sp := fun vs H Q _ => ∃ (a lt : Addr) (A : List Bool) (m st : Nat) (zs : List Int), vs = [.ref a, .int m, .int st, .ref lt] ∧ H a = some (.lst (blV A)) ∧ H lt = some (.lst (zs.map V.int)) ∧ A.length ≤ 4 ∧ st < A.length ∧ 1 ≤ zs.length ∧ zs.length ≤ 4 ∧ m < n ∧
  ∀ H', Same H H' → Q (.bl (decide ((zs.length : Int) ≤ tS m (A.drop st)))) H'
/-- the parts of a lot, each a list of its own -/
structure Pts (H : Hp) (D : Addr) (As : List Addr) (c : Nat) (f : Nat → Nat) : Prop where
  len : As.length = c
  nd : As.Nodup
  nD : D ∉ As
  hD : H D = some (.lst (As.map V.ref))
  at_ : ∀ (k : Nat) b, As[k]? = some b → ∃ zs : List Int, H b = some (.lst (zs.map V.int)) ∧ zs.length = f k
theorem Pts.same {H H' : Hp} {D : Addr} {As : List Addr} {c : Nat} {f : Nat → Nat} (h : Pts H D As c f) (s : Same H H') : Pts H' D As c f :=
  ⟨h.len, h.nd, h.nD, s _ _ h.hD, fun k b e => let ⟨zs, h1, h2⟩ := h.at_ k b e; ⟨zs, s _ _ h1, h2⟩⟩
theorem Pts.get {H : Hp} {D : Addr} {As : List Addr} {c k : Nat} {f : Nat → Nat} (h : Pts H D As c f) (hk : k < c) : ∃ (b : Addr) (zs : List Int), As[k]? = some b ∧ (As.map V.ref)[k]? = some (.ref b) ∧ H b = some (.lst (zs.map V.int)) ∧ zs.length = f k := by
  have e := List.getElem?_eq_getElem (l := As) (i := k) (by rw [h.len]; exact hk)
  obtain ⟨zs, h1, h2⟩ := h.at_ k _ e
  exact ⟨_, zs, e, by rw [List.getElem?_map, e]; rfl, h1, h2⟩
theorem Pts.put {H : Hp} {D b : Addr} {As : List Addr} {c d : Nat} {f g : Nat → Nat} {zs : List Int} (h : Pts H D As c f) (hb : As[d]? = some b) (e : zs.length = g d) (hg : ∀ k, k ≠ d → g k = f k) : Pts (upd H b (.lst (zs.map V.int))) D As c g := by
  have nb : D ≠ b := fun z => h.nD (by rw [z]; exact List.mem_of_getElem? hb)
  refine ⟨h.len, h.nd, h.nD, by rw [upd_ne nb]; exact h.hD, fun k b' e' => ?_⟩
  by_cases hk : k = d
  · subst hk
    rw [hb] at e'
    cases e'
    exact ⟨zs, upd_same, e⟩
  · have n : b' ≠ b := fun z => by
      subst z
      have h1 := (List.getElem?_eq_some_iff.mp hb).1
      have h2 := (List.getElem?_eq_some_iff.mp e').1
      have h3 := (List.getElem?_eq_some_iff.mp hb).2
      have h4 := (List.getElem?_eq_some_iff.mp e').2
      exact hk ((List.getElem_inj h.nd).mp (h4.trans h3.symm))
    obtain ⟨ws, h1, h2⟩ := h.at_ k b' e'
    exact ⟨ws, by rw [upd_ne n]; exact h1, by rw [h2, hg k hk]⟩
theorem eqv_nil : PyData.eqv (.list (([] : List Int).map PyData.int)) (.list []) = true ∧ ∀ (z : Int) (ws : List Int), PyData.eqv (.list ((z :: ws).map PyData.int)) (.list []) = false :=
  ⟨by simp [PyData.eqv, PyData.eqvAll], fun z ws => by simp [PyData.eqv, PyData.eqvAll]⟩
theorem count_more {l : List Nat} {d k : Nat} : (l ++ [d]).count k = l.count k + if k = d then 1 else 0 := by
  rw [List.count_append, List.count_cons, List.count_nil]
  by_cases e : k = d
  · subst e; simp
  · rw [if_neg (fun h => e (eq_of_beq h).symm), if_neg e]
section
variable {P : Program} {w : World} {K : PySem.W.Frag} {mg : Str → Option Value} {base : Heap}
theorem told_body (T : Tx) (O : Ok K mg T) (n : Nat) (ih : FnOk P w K mg base CX0 (n + 1) T.f_Lis_asked T.d_Lis_asked ["_law_allowed_here", "_law_most", "_law_stood", "_law_lot"] (sp_Lasked K n)) : FnOk P w K mg base CX0 (n + 1 + 1) T.f_Lis_told T.d_Lis_told ["_law_allowed_here", "_law_most", "_law_stood", "_law_lot"] (sp_Ltold K (n + 1)) := by
  refine O.F_Lis_told.ok sc_Lis_told (fun vs H Q E h => by obtain ⟨_, _, _, _, _, _, rfl, _⟩ := h; rfl) (fun cdv A0 outer s H vs Q E hr h => ?_)
  have ok_Lis_asked : Tx → Ok K mg T → FnOk P w K mg base CX0 (n + 1) T.f_Lis_asked T.d_Lis_asked ["_law_allowed_here", "_law_most", "_law_stood", "_law_lot"] (sp_Lasked K n) := fun _ _ => ih
  obtain ⟨a, lt, A, m, st, zs, rfl, ha, hz, lA, hst, z1, z4, hm, q⟩ := h
  refine ⟨_, (pss_cons (ps_if (pt_cmpR op_eq (pv 1) pe_int (nomark _)) (pss_one (ps_ret pe_bl)) pss_nil)
  (pss_cons (ps_set (i := 4) sc_Lis_told.nd rfl (Or.inl rfl) (pe_op op_sub (pe_callB (r := Jv.rLenK K) Jv.cr_len (by rfl) O.z_len (by decide +kernel) (pa_cons (pv 0) pa_nil)) (pv 2)))
  (pss_cons (ps_set (i := 5) sc_Lis_told.nd rfl (Or.inl rfl) pe_int)
  (pss_cons (ps_for PassesOwn.never rfl (show PI _ _ _ (iList K _) from pi_list (pv 3)) (pg_name (i := 6) sc_Lis_told.nd rfl (Or.inl rfl)) (pss_one (ps_set (i := 5) sc_Lis_told.nd rfl (Or.inl rfl) (pe_op op_mul (pv 5) (pv 4)))))
  (pss_cons (ps_for PassesOwn.never rfl (pi_range1 (by rfl) O.z_range (pa_cons (pv 5) pa_nil)) (pg_name (i := 7) sc_Lis_told.nd rfl (Or.inl rfl)) (pss_cons (ps_set (i := 8) sc_Lis_told.nd rfl (Or.inl rfl) (pv 7))
  (pss_cons (ps_setLc (i := 9) (own := [("_law_one", 12)]) (by rfl) sc_Lis_told.nd rfl rfl (sw_true rfl rfl rfl (by decide +kernel)) (pi_range1 (by rfl) O.z_range (pa_cons (pv 4) pa_nil)) (blkOk_by (own := [("_law_one", 12)]) (N := ["_law_allowed_here", "_law_most", "_law_stood", "_law_lot", "_law_many", "_law_number_of", "_law_kind", "_law_number", "_law_rest", "_law_parts", "_law_bad", "_law_k", "_law_one"]) (sc := defScope s_Lis_told) (scope := ({ kind := .function, names := [(".0", .local), ("_law_one", .local)], isGenerator := false, isCoroutine := false } : Scope)) (by decide +kernel)) (fun _ _ _ _ _ => (pg_name (i := 12) sc_Lis_told.nd rfl (Or.inl rfl))) (fun _ _ _ _ _ => pts_nil) (fun _ _ _ _ _ => (pe_lst pa_nil)))
  (pss_cons (ps_for PassesOwn.never rfl (show PI _ _ _ (iList K _) from pi_list (pv 3)) (pg_name (i := 6) sc_Lis_told.nd rfl (Or.inl rfl)) (pss_cons (ps_expr (show PE _ _ (tBM K _ _ _ _) from pe_bm PySem.F.plainAttrs_list PySem.F.slot_list_append PySem.F.type_list_append mt_append (pe_ix (r := rIxL K) ix_list (pv 9) (pe_op op_mod (pe_callTy (r := Jv.rInt) Jv.cr_int (by rfl) O.z_int (by decide +kernel) (pa_cons (pv 8) pa_nil)) (pv 4)) (fun _ _ => rfl)) (pa_cons (pv 6) pa_nil)))
  (pss_one (ps_set (i := 8) sc_Lis_told.nd rfl (Or.inl rfl) (pe_op op_fdivW (pv 8) (pv 4))))))
  (pss_cons (ps_if (pt_cmpR op_gt (pe_callB (r := Jv.rLenK K) Jv.cr_len (by rfl) O.z_len (by decide +kernel) (pa_cons (pe_ix (r := rIxL K) ix_list (pv 9) pe_int (fun _ _ => rfl)) pa_nil)) (pe_ifExp (pt_val (pe_ix (r := rIxL K) ix_list (pv 0) (pv 2) (fun _ _ => rfl))) pe_int pe_int) (nomark _)) (pss_one ps_continue) pss_nil)
  (pss_cons (ps_set (i := 10) sc_Lis_told.nd rfl (Or.inl rfl) pe_bl)
  (pss_cons (ps_for PassesOwn.never rfl (pi_range2 (by rfl) O.z_range (pa_cons pe_int (pa_cons (pv 4) pa_nil))) (pg_name (i := 11) sc_Lis_told.nd rfl (Or.inl rfl)) (pss_one (ps_if (PW.pt (pw_and (pt_not (pt_val (pv 10))) (pw_and (pt_cmpR (r := rNeD K) (op_neD hr.units) (pe_ix (r := rIxL K) ix_list (pv 9) (pv 11) (fun _ _ => rfl)) (pe_lst pa_nil) (nomark _)) (pw_and1 (pt_not (pt_val (pe_call (ok_Lis_asked T O) (hr.mono (Nat.le_refl _)) (by rfl) O.m_Lis_asked O.F_Lis_asked.kp O.b_Lis_asked .nil pass0 (pa_cons (pv 0) (pa_cons (pe_op op_sub (pv 1) pe_int) (pa_cons (pe_op op_add (pv 2) (pv 11)) (pa_cons (pe_ix (r := rIxL K) ix_list (pv 9) (pv 11) (fun _ _ => rfl)) pa_nil))))))))))) (pss_one (ps_set (i := 10) sc_Lis_told.nd rfl (Or.inl rfl) pe_bl)) pss_nil)))
  (pss_one (ps_if (pt_not (pt_val (pv 10))) (pss_one (ps_ret pe_bl)) pss_nil)))))))))
  (pss_one (ps_ret pe_bl))))))), ?_⟩
  walk_at "r"
  refine Jv.r_decI (fun h0 => ?_) (fun h0 => ?_)
  · obtain rfl : m = 0 := by omega
    walk_at "r"
    have := q _ (Same.refl _)
    rw [decide_eq_false (show ¬ (zs.length : Int) ≤ tT 0 (A.drop st) from fun z => by have : tT 0 (A.drop st) = 0 := rfl; omega)] at this
    exact this
  obtain ⟨m, rfl⟩ : ∃ k, m = k + 1 := ⟨m - 1, by omega⟩
  obtain ⟨c, hc⟩ : ∃ c, c = A.length - st := ⟨_, rfl⟩
  have lB : (A.drop st).length = c := by rw [List.length_drop, hc]
  have ec : ((A.length : Nat) : Int) - (st : Nat) = (c : Nat) := by omega
  walk_at "r"
  rw [blV_len, ec]
  walk_at "r"
  refine ⟨lt, rfl, ⟨_, Jv.sqL_at hz⟩, ?_⟩
  refine for_list (xs := zs.map V.int) (fun i σ H' => ∃ y6, σ = [some (.ref a), some (.int ((m + 1 : Nat) : Int)), some (.int st), some (.ref lt), some (.int c), some (.int ((c ^ i : Nat) : Int)), y6, none, none, none, none, none, none] ∧ H' = H) ⟨_, rfl, rfl⟩ ?_ ?_ ?_
  · rintro i σ H1 _ ⟨y6, rfl, rfl⟩
    exact Jv.sqL_at hz
  · rintro i x σ H1 hx ⟨y6, rfl, rfl⟩
    walk_at "r"
    refine ⟨some x, ?_, rfl⟩
    rw [Nat.pow_succ, Int.natCast_mul]; rfl
  rintro σ H1 ⟨y6, rfl, rfl⟩
  rw [List.length_map]
  have hpow : c ^ zs.length ≤ 256 := by
    have h1 : c ^ zs.length ≤ 4 ^ zs.length := Nat.pow_le_pow_left (by omega) _
    have h2 : 4 ^ zs.length ≤ 4 ^ 4 := Nat.pow_le_pow_right (by decide) z4
    omega
  walk_at "r"
  refine ⟨_, rfl, by omega, by omega, ?_⟩
  refine for_range (lo := 0) (n := ((c ^ zs.length : Nat) : Int).toNat) (fun i σ H' => ∃ (y6 y7 y8 y9 y10 y11 : Option V), σ = [some (.ref a), some (.int ((m + 1 : Nat) : Int)), some (.int st), some (.ref lt), some (.int c), some (.int ((c ^ zs.length : Nat) : Int)), y6, y7, y8, y9, y10, y11, none] ∧ Same H1 H' ∧ ∀ j, j < i → ¬ Good (A.drop st) m zs.length j)
    ⟨_, _, _, _, _, _, rfl, Same.refl _, fun j hj => by omega⟩ ?_ ?_
  · rintro x σ H2 hx ⟨y6, y7, y8, y9, y10, y11, rfl, s2, no⟩
    have hx2 : x < c ^ zs.length := by omega
    walk_at "r"
    rw [show (0 : Int) + (x : Nat) = (x : Nat) by omega]
    refine Jv.lcOwnR (n := c) (fun PP hP => by walk_at "r"; exact hP) rfl (fun _ => []) (by omega) (fun k D H3 hk s3 hD PP hP => ?_) (fun D As H3 s3 hD lAs nd nD fr eD eA => ?_)
    · walk_at "r"
      intro t ht
      exact hP t _ ht (Jv.same_new ht) upd_same
    have p0 : Pts H3 D As c (fun k => (dg c 0 x).count k) := ⟨lAs, nd, nD, eD, fun k b e => ⟨[], eA k b e, rfl⟩⟩
    walk_at "r"
    refine ⟨lt, rfl, ⟨_, Jv.sqL_at ((s2.trans s3) _ _ hz)⟩, ?_⟩
    refine for_list (xs := zs.map V.int) (fun t σ H' => ∃ (y6 : Option V), σ = [some (.ref a), some (.int ((m + 1 : Nat) : Int)), some (.int st), some (.ref lt), some (.int c), some (.int ((c ^ zs.length : Nat) : Int)), y6, some (.int (x : Nat)), some (.int ((x / c ^ t : Nat) : Int)), some (.ref D), y10, y11, none] ∧ Same H1 H' ∧ Pts H' D As c (fun k => (dg c t x).count k))
      ⟨_, by rw [Nat.pow_zero, Nat.div_one]; rfl, s2.trans s3, p0⟩ ?_ ?_ ?_
    · rintro t σ H4 _ ⟨y6, rfl, s4, _⟩
      exact Jv.sqL_at (s4 _ _ hz)
    · rintro t v σ H4 hv ⟨y6, rfl, s4, pt⟩
      obtain ⟨z, _, rfl⟩ := Jv.map_at hv
      have hd4 := pt.hD
      obtain ⟨b, ws, hb, hb2, hw, lw⟩ := pt.get (k := x / c ^ t % c) (Nat.mod_lt _ (by omega))
      have n1 : H1 b = none := Same.free s2 (fr b (List.mem_of_getElem? hb))
      have lw2 : ws.length ≤ t := by
        rw [lw]
        have := List.count_le_length (a := x / c ^ t % c) (l := dg c t x)
        rw [dg_len] at this; exact this
      have ht : t < zs.length := by
        have := (List.getElem?_eq_some_iff.mp hv).1
        rw [List.length_map] at this; exact this
      have c0 : (0 : Int) < c := by omega
      walk_at "r"
      rw [show ((x / c ^ t : Nat) : Int) % (c : Int) = ((x / c ^ t % c : Nat) : Int) from rfl]
      refine Jv.r_ixL (Jv.sqL_at hd4) (Jv.at_i (by omega) (by rw [Int.toNat_natCast]; exact hb2)) ?_
      walk_at "r"
      refine Jv.r_app hw (by rw [List.length_map]; omega) ?_
      walk_at "r"
      refine ⟨some (.int z), ?_, fun b' o e => Jv.kpO (s4 _ _ e) (ne_of_none e n1), ?_⟩
      · rw [show ((x / c ^ t : Nat) : Int) / (c : Int) = ((x / c ^ t / c : Nat) : Int) from rfl, Nat.div_div_eq_div_mul, ← Nat.pow_succ]; rfl
      · rw [show (ws.map V.int ++ [V.int z]) = (ws ++ [z]).map V.int by rw [List.map_append]; rfl]
        refine pt.put hb ?_ (fun k hk => ?_)
        · rw [dg_more (by omega), count_more, if_pos rfl, List.length_append, lw]; rfl
        · rw [dg_more (by omega), count_more, if_neg hk]; rfl
    · rintro σ H4 ⟨y6, rfl, s4, pt⟩
      rw [List.length_map] at pt
      have hd4 := pt.hD
      have ha4 := s4 _ _ ha
      obtain ⟨b, ws, hb, hb2, hw, lw⟩ := pt.get (k := 0) (by omega)
      walk_at "r"
      refine Jv.r_ixL (Jv.sqL_at hd4) (Jv.at_i (by decide) hb2) ?_
      walk_at "r"
      refine Jv.r_ixL (Jv.sqL_at ha4) (Jv.at_i (by omega) (by rw [Int.toNat_natCast]; exact blV_get hst)) ?_
      walk_at "r"
      refine r_own ?_
      walk_at "r"
      rw [List.length_map]
      have cap0 : (caps (A.drop st) m).getD 0 0 = (own (A.getD st false)).toNat := by
        rw [caps_0, List.getD_eq_getElem?_getD, List.getElem?_drop, ← List.getD_eq_getElem?_getD]; rfl
      have own0 := own_01 (A.getD st false)
      refine Jv.r_dec (fun hg => ?_) (fun hg => ?_)
      · walk_at "r"
        refine ⟨_, _, _, _, _, _, rfl, s4, fun j hj => ?_⟩
        by_cases e : j = x
        · subst e
          intro g
          have := g 0 (by omega)
          rw [cap0, lB, ← lw] at this
          omega
        · exact no j (by omega)
      walk_at "r"
      refine ⟨1, (c : Int), rfl, by omega, ?_⟩
      refine for_range (lo := 1) (n := ((c : Int) - 1).toNat) (fun t σ H' => ∃ (y11 : Option V) (bad : Bool), σ = [some (.ref a), some (.int ((m + 1 : Nat) : Int)), some (.int st), some (.ref lt), some (.int c), some (.int ((c ^ zs.length : Nat) : Int)), y6, some (.int (x : Nat)), some (.int ((x / c ^ (zs.map V.int).length : Nat) : Int)), some (.ref D), some (.bl bad), y11, none] ∧ Same H4 H' ∧
          (bad = true ↔ ∃ k, 1 ≤ k ∧ k < 1 + t ∧ (caps (A.drop st) m).getD k 0 < (dg c zs.length x).count k))
        ⟨_, false, rfl, Same.refl _, by constructor <;> intro h; · cases h
                                        · obtain ⟨k, h1, h2, _⟩ := h; omega⟩ ?_ ?_
      · rintro t σ H5 ht ⟨y11, bad, rfl, s5, hbad⟩
        have ht2 : 1 + t < c := by omega
        have pt5 := pt.same s5
        have hd5 := pt5.hD
        obtain ⟨b5, w5, hb5, hb52, hw5, lw5⟩ := pt5.get (k := 1 + t) ht2
        have ha5 := s5 _ _ ha4
        have capk := caps_k (B := A.drop st) (m := m) (k := 1 + t) (by omega) (by omega)
        rw [List.drop_drop] at capk
        have nn := (TS_nn m).2 (A.drop (st + (1 + t)))
        have more : ∀ (y11 : Option V) (H6 : Hp), Same H5 H6 → (¬ (caps (A.drop st) m).getD (1 + t) 0 < (dg c zs.length x).count (1 + t) ∨ bad = true) → ∃ (y11' : Option V) (bad' : Bool), [some (.ref a), some (.int ((m + 1 : Nat) : Int)), some (.int st), some (.ref lt), some (.int c), some (.int ((c ^ zs.length : Nat) : Int)), y6, some (.int (x : Nat)), some (.int ((x / c ^ (zs.map V.int).length : Nat) : Int)), some (.ref D), some (.bl bad), y11, none] = [some (.ref a), some (.int ((m + 1 : Nat) : Int)), some (.int st), some (.ref lt), some (.int c), some (.int ((c ^ zs.length : Nat) : Int)), y6, some (.int (x : Nat)), some (.int ((x / c ^ (zs.map V.int).length : Nat) : Int)), some (.ref D), some (.bl bad'), y11', none] ∧ Same H4 H6 ∧
            (bad' = true ↔ ∃ k, 1 ≤ k ∧ k < 1 + (t + 1) ∧ (caps (A.drop st) m).getD k 0 < (dg c zs.length x).count k) := fun y11 H6 s6 hh => by
          refine ⟨y11, bad, rfl, s5.trans s6, fun e => ?_, fun ⟨k, h1, h2, h3⟩ => ?_⟩
          · obtain ⟨k, h1, h2, h3⟩ := hbad.mp e
            exact ⟨k, h1, by omega, h3⟩
          · rcases hh with hh | hh
            · by_cases e : k = 1 + t
              · subst e; exact absurd h3 hh
              · exact hbad.mpr ⟨k, h1, by omega, h3⟩
            · exact hh
        walk_at "r"
        cases hbd : bad with
        | true =>
          walk_at "r"
          have := more (some (.int (1 + (t : Nat)))) H5 (Same.refl _) (.inr hbd)
          rw [hbd] at this
          exact this
        | false =>
          rw [hbd] at more hbad
          walk_at "r"
          refine Jv.r_ixL (Jv.sqL_at hd5) (Jv.at_i (by omega) (by rw [show ((1 : Int) + (t : Nat)).toNat = 1 + t by omega]; exact hb52)) ?_
          walk_at "r"
          intro p hp
          have s6 := Jv.same_new (u := .lst []) hp
          refine ⟨.list (w5.map .int), .list [], (Jv.Dv.lst (s6 _ _ hw5) (Jv.dv_ints w5)).dp, (Jv.Dv.lst upd_same .nil).dp, (shaped_ints w5).1, (shaped_ints []).1, ?_⟩
          walk_at "r"
          cases w5 with
          | nil =>
            rw [show PyData.eqv (.list (([] : List Int).map PyData.int)) (.list []) = true from eqv_nil.1]
            walk_at "r"
            exact more _ _ s6 (.inl (by rw [← lw5, List.length_nil]; omega))
          | cons z0 w5 =>
            rw [show PyData.eqv (.list ((z0 :: w5).map PyData.int)) (.list []) = false from eqv_nil.2 _ _]
            walk_at "r"
            refine Jv.r_ixL (Jv.sqL_at (s6 _ _ hd5)) (Jv.at_i (by omega) (by rw [show ((1 : Int) + (t : Nat)).toNat = 1 + t by omega]; exact hb52)) ?_
            walk_at "r"
            have lw6 : (z0 :: w5).length ≤ 4 := by
              rw [lw5]
              have := List.count_le_length (a := 1 + t) (l := dg c zs.length x)
              rw [dg_len] at this; omega
            refine ⟨a, b5, A, m, st + (1 + t), z0 :: w5, ?_, s6 _ _ ha5, s6 _ _ hw5, lA, by omega, by simp, lw6, by omega, fun H7 s7 => ?_⟩
            · rw [show ((m + 1 : Nat) : Int) - 1 = (m : Nat) by omega, show (st : Int) + (1 + (t : Nat)) = ((st + (1 + t) : Nat) : Int) by omega]; rfl
            walk_at "r"
            refine Jv.r_ndec (fun hn => ?_) (fun hn => ?_)
            · walk_at "r"
              refine ⟨_, true, rfl, s5.trans (s6.trans s7), fun _ => ⟨1 + t, by omega, by omega, ?_⟩, fun _ => rfl⟩
              rw [capk, ← lw5]; omega
            · walk_at "r"
              refine more _ _ (s6.trans s7) (.inl ?_)
              rw [capk, ← lw5]; omega
      · rintro σ H5 ⟨y11, bad, rfl, s5, hbad⟩
        walk_at "r"
        cases hbd : bad with
        | false =>
          rw [hbd] at hbad
          walk_at "r"
          have g : Good (A.drop st) m zs.length x := fun k hk => by
            rw [lB] at hk ⊢
            by_cases e : k = 0
            · subst e
              rw [cap0, ← lw]; omega
            · refine Nat.le_of_not_lt fun h => ?_
              have := hbad.mpr ⟨k, by omega, by omega, h⟩
              cases this
          have := q _ (s4.trans s5)
          rw [decide_eq_true ((told_iff (by omega)).mp ⟨x, by rw [lB]; exact hx2, g⟩)] at this
          exact this
        | true =>
          rw [hbd] at hbad
          walk_at "r"
          refine ⟨_, _, _, _, _, _, rfl, s4.trans s5, fun j hj => ?_⟩
          by_cases e : j = x
          · subst e
            intro g
            obtain ⟨k, h1, h2, h3⟩ := hbad.mp rfl
            have := g k (by omega)
            rw [lB] at this
            omega
          · exact no j (by omega)
  · rintro σ H2 ⟨y6, y7, y8, y9, y10, y11, rfl, s2, no⟩
    walk_at "r"
    have := q _ s2
    rw [decide_eq_false] at this
    · exact this
    · rw [← told_iff (by omega)]
      rintro ⟨x, hx, g⟩
      exact no x (by rw [lB] at hx; rw [Int.toNat_natCast]; exact hx) g
theorem asked_body (T : Tx) (O : Ok K mg T) (n : Nat) (ih : FnOk P w K mg base CX0 (n + 1) T.f_Lis_told T.d_Lis_told ["_law_allowed_here", "_law_most", "_law_stood", "_law_lot"] (sp_Ltold K n)) : FnOk P w K mg base CX0 (n + 1 + 1) T.f_Lis_asked T.d_Lis_asked ["_law_allowed_here", "_law_most", "_law_stood", "_law_lot"] (sp_Lasked K (n + 1)) := by
  refine O.F_Lis_asked.ok sc_Lis_asked (fun vs H Q E h => by obtain ⟨_, _, _, _, _, _, rfl, _⟩ := h; rfl) (fun cdv A0 outer s H vs Q E hr h => ?_)
  have ok_Lis_told : Tx → Ok K mg T → FnOk P w K mg base CX0 (n + 1) T.f_Lis_told T.d_Lis_told ["_law_allowed_here", "_law_most", "_law_stood", "_law_lot"] (sp_Ltold K n) := fun _ _ => ih
  obtain ⟨a, lt, A, m, st, zs, rfl, ha, hz, lA, hst, z1, z4, hm, q⟩ := h
  refine ⟨_, (pss_cons (ps_if (pt_cmpR op_eq (pv 1) pe_int (nomark _)) (pss_one (ps_ret pe_bl)) pss_nil)
  (C8.pss_cut (ps_if (PW.pt (pw_and (pt_cmpR op_eq (pe_callB (r := Jv.rLenK K) Jv.cr_len (by rfl) O.z_len (by decide +kernel) (pa_cons (pv 3) pa_nil)) pe_int (nomark _)) (pw_and1 (pt_val (pe_ix (r := rIxL K) ix_list (pv 0) (pv 2) (fun _ _ => rfl)))))) (pss_one (ps_ret pe_bl)) pss_nil)
  (pss_cons (ps_for PassesOwn.never rfl (pi_range2 (by rfl) O.z_range (pa_cons (pe_op op_add (pv 2) pe_int) (pa_cons (pe_callB (r := Jv.rLenK K) Jv.cr_len (by rfl) O.z_len (by decide +kernel) (pa_cons (pv 0) pa_nil)) pa_nil))) (pg_name (i := 4) sc_Lis_asked.nd rfl (Or.inl rfl)) (pss_one (ps_if (pt_val (pe_call (ok_Lis_told T O) (hr.mono (Nat.le_refl _)) (by rfl) O.m_Lis_told O.F_Lis_told.kp O.b_Lis_told .nil pass0 (pa_cons (pv 0) (pa_cons (pe_op op_sub (pv 1) pe_int) (pa_cons (pv 4) (pa_cons (pv 3) pa_nil)))))) (pss_one (ps_ret pe_bl)) pss_nil)))
  (pss_one (ps_ret pe_bl))))), ?_⟩
  walk_at "r"
  refine Jv.r_decI (fun h0 => ?_) (fun h0 => ?_)
  · obtain rfl : m = 0 := by omega
    walk_at "r"
    have := q _ (Same.refl _)
    rw [decide_eq_false (show ¬ (zs.length : Int) ≤ tS 0 (A.drop st) from fun z => by have : tS 0 (A.drop st) = 0 := rfl; omega)] at this
    exact this
  obtain ⟨m, rfl⟩ : ∃ k, m = k + 1 := ⟨m - 1, by omega⟩
  have iff := asked_iff (b := A.getD st false) (bs := A.drop (st + 1)) (m := m) (n := zs.length) z1
  rw [← getD_drop hst] at iff
  have yes : (zs.length : Int) ≤ tS (m + 1) (A.drop st) → ∀ H', Same H H' → Q (.bl true) H' := fun h H' s' => by
    have := q _ s'
    rw [decide_eq_true h] at this
    exact this
  refine ⟨fun σ' H' => σ' = [some (.ref a), some (.int ((m + 1 : Nat) : Int)), some (.int st), some (.ref lt), none] ∧ H' = H ∧ ¬ (zs.length = 1 ∧ A.getD st false = true), ?_, ?_⟩
  · walk_at "r"
    rw [List.length_map]
    refine Jv.r_decI (fun h1 => ?_) (fun h1 => ?_)
    · walk_at "r"
      refine Jv.r_ixL (Jv.sqL_at ha) (Jv.at_i (by omega) (by rw [Int.toNat_natCast]; exact blV_get hst)) ?_
      walk_at "r"
      refine Jv.r_bool (fun hb => ?_) (fun hb => ?_)
      · walk_at "r"
        exact yes (iff.mpr (.inl ⟨by omega, hb⟩)) _ (Same.refl _)
      · walk_at "r"
        exact ⟨rfl, rfl, fun ⟨_, h⟩ => by rw [hb] at h; cases h⟩
    · walk_at "r"
      exact ⟨rfl, rfl, fun ⟨h, _⟩ => h1 (by omega)⟩
  rintro σ H1 ⟨rfl, rfl, no1⟩
  walk_at "r"
  rw [blV_len]
  refine ⟨_, _, rfl, by omega, ?_⟩
  refine for_range (lo := (st : Int) + 1) (n := ((A.length : Nat) - ((st : Int) + 1)).toNat) (fun t σ H' => ∃ (y4 : Option V), σ = [some (.ref a), some (.int ((m + 1 : Nat) : Int)), some (.int st), some (.ref lt), y4] ∧ Same H1 H' ∧ ∀ k, k < t → ¬ (zs.length : Int) ≤ tT m ((A.drop (st + 1)).drop k)) ⟨_, rfl, Same.refl _, fun k hk => by omega⟩ ?_ ?_
  · rintro t σ H2 ht ⟨y4, rfl, s2, no⟩
    have ht2 : st + 1 + t < A.length := by omega
    walk_at "r"
    refine ⟨a, lt, A, m, st + 1 + t, zs, ?_, s2 _ _ ha, s2 _ _ hz, lA, ht2, z1, z4, by omega, fun H3 s3 => ?_⟩
    · rw [show ((m + 1 : Nat) : Int) - 1 = (m : Nat) by omega, show (st : Int) + 1 + (t : Nat) = ((st + 1 + t : Nat) : Int) by omega]; rfl
    walk_at "r"
    refine Jv.r_dec (fun hd => ?_) (fun hd => ?_)
    · walk_at "r"
      exact yes (iff.mpr (.inr ⟨t, by rw [List.length_drop]; omega, by rw [List.drop_drop]; exact hd⟩)) _ (s2.trans s3)
    · walk_at "r"
      refine ⟨_, rfl, s2.trans s3, fun k hk => ?_⟩
      by_cases e : k = t
      · subst e; rw [List.drop_drop]; exact hd
      · exact no k (by omega)
  · rintro σ H2 ⟨y4, rfl, s2, no⟩
    walk_at "r"
    have := q _ s2
    rw [decide_eq_false] at this
    · exact this
    · rw [iff]
      rintro (h | ⟨k, hk, h⟩)
      · exact no1 h
      · exact no k (by rw [List.length_drop] at hk; omega) h
theorem both_told (T : Tx) (O : Ok K mg T) : ∀ n, FnOk P w K mg base CX0 (n + 1) T.f_Lis_told T.d_Lis_told ["_law_allowed_here", "_law_most", "_law_stood", "_law_lot"] (sp_Ltold K n) ∧ FnOk P w K mg base CX0 (n + 1) T.f_Lis_asked T.d_Lis_asked ["_law_allowed_here", "_law_most", "_law_stood", "_law_lot"] (sp_Lasked K n)
  | 0 => ⟨O.F_Lis_told.ok sc_Lis_told (fun vs H Q E h => by obtain ⟨_, _, _, _, _, _, _, _, _, _, _, _, _, h, _⟩ := h; omega) (fun cdv A outer s H vs Q E hr h => by obtain ⟨_, _, _, _, _, _, _, _, _, _, _, _, _, h, _⟩ := h; omega),
      O.F_Lis_asked.ok sc_Lis_asked (fun vs H Q E h => by obtain ⟨_, _, _, _, _, _, _, _, _, _, _, _, _, h, _⟩ := h; omega) (fun cdv A outer s H vs Q E hr h => by obtain ⟨_, _, _, _, _, _, _, _, _, _, _, _, _, h, _⟩ := h; omega)⟩
  | n + 1 => by
    obtain ⟨h1, h2⟩ := both_told T O n
    exact ⟨told_body T O n h2, asked_body T O n h1⟩
end
end K35

namespace K35
open PySem PySem.Spec PyProof.Rows L2
/-! ### small ladders, exactly -/
def sp_Lsmall : Sp := fun vs H Q _ => ∃ h hl, vs = [.ref h] ∧ Jv.Hand H h hl ∧ ∀ H', Jv.Kp h H H' → Jv.Hand H' h hl → Q (.bl true) H'
theorem WordsV.of {L : Nat} {d : PyData} (h : WordsV d) : ∃ m, WordsOf d L m := by
  rcases h with rfl | ⟨w, rfl, h1⟩
  · exact ⟨_, .inl ⟨rfl, rfl⟩⟩
  · by_cases e : (L : Int) + 1 < w
    · exact ⟨L + 1, .inr ⟨w, rfl, h1, by rw [if_pos e]; omega⟩⟩
    · exact ⟨w.toNat, .inr ⟨w, rfl, h1, by rw [if_neg e]; omega⟩⟩
/-- a question that is well asked -/
theorem Asked.good {K : PySem.W.Frag} {T : Tx} {H : Hp} {L st m : Nat} {ve vw : V} {de dw : PyData} {A : List Bool} {E : XK} {good : List Int → Prop} (hL : L ≤ 30) (he : Jv.Dv K H ve de) (hA : EndsOf de L A) (hw : Jv.Dv K H vw dw) (hm : WordsOf dw L m) (hst : st ≤ L) (g : good (due A (m - 1) st)) :
    Asked K T H (.int L) ve vw (.int st) E good := ⟨.int L, de, dw, .int st, .int _, .dv he, hw, .int _, .inr ⟨L, rfl, hL, .inr ⟨A, hA, .inr ⟨m, hm, .inr ⟨st, rfl, hst, g⟩⟩⟩⟩⟩
section
variable {P : Program} {w : World} {K : PySem.W.Frag} {mg : Str → Option Value} {base : Heap}
theorem ok_Lis_told (T : Tx) (O : Ok K mg T) : FnOk P w K mg base CX0 6 T.f_Lis_told T.d_Lis_told ["_law_allowed_here", "_law_most", "_law_stood", "_law_lot"] (sp_Ltold K 5) := (both_told T O 5).1
theorem ok_Lsmall (T : Tx) (O : Ok K mg T) : FnOk P w K mg base CX0 7 T.f_Lsmall T.d_Lsmall ["_law_hand_here"] sp_Lsmall := by
  refine O.F_Lsmall.ok sc_Lsmall (fun vs H Q E h => by obtain ⟨_, _, rfl, _⟩ := h; rfl) (fun cdv A0 outer s H vs Q E hr h => ?_)
  obtain ⟨h, hl, rfl, hh, q⟩ := h
  refine ⟨_, (pss_cons (ps_set (i := 1) sc_Lsmall.nd rfl (Or.inl rfl) (pe_call (ok_Ldraw T O) (hr.mono (by decide)) (by rfl) O.m_Ldraw O.F_Ldraw.kp O.b_Ldraw .nil pass0 (pa_cons (pv 0) (pa_cons pe_int pa_nil))))
  (pss_cons (ps_set (i := 2) sc_Lsmall.nd rfl (Or.inl rfl) (pe_call (ok_Lsome_ends T O) (hr.mono (by decide)) (by rfl) O.m_Lsome_ends O.F_Lsome_ends.kp O.b_Lsome_ends .nil pass0 (pa_cons (pv 0) (pa_cons (pv 1) pa_nil))))
  (pss_cons (ps_set (i := 3) sc_Lsmall.nd rfl (Or.inl rfl) (pe_call (ok_Lsome_words T O) (hr.mono (by decide)) (by rfl) O.m_Lsome_words O.F_Lsome_words.kp O.b_Lsome_words .nil pass0 (pa_cons (pv 0) (pa_cons (pv 1) pa_nil))))
  (pss_cons (ps_set (i := 4) sc_Lsmall.nd rfl (Or.inl rfl) (pe_call (ok_Lallowed T O) (hr.mono (by decide)) (by rfl) O.m_Lallowed O.F_Lallowed.kp O.b_Lallowed .nil pass0 (pa_cons (pv 1) (pa_cons (pv 2) pa_nil))))
  (C8.pss_cut (ps_set (i := 5) sc_Lsmall.nd rfl (Or.inl rfl) (pe_ifExp (PW.pt (pw_or (pt_cmpR op_isN (pv 3) pe_non (nomark _)) (pw_or1 (pt_cmpR op_gt (pv 3) (pv 1) (nomark _))))) (pe_op op_add (pv 1) pe_int) (pv 3)))
  (pss_cons (ps_set (i := 6) sc_Lsmall.nd rfl (Or.inl rfl) (pe_callN (E := E0) (ok_told_within T O) (hr.mono (by decide)) (by rfl) O.m_told_within O.F_told_within.kp O.kb1_ends_words_told_within passL (pa_cons (pv 1) pa_nil) (pk_cons (pv 2) (pk_cons (pv 3) pk_nil))))
  (pss_cons (ps_for PassesOwn.never rfl (pi_range2 (by rfl) O.z_range (pa_cons pe_int (pa_cons pe_int pa_nil))) (pg_name (i := 7) sc_Lsmall.nd rfl (Or.inl rfl)) (pss_one (ps_if (pt_cmpR op_ne (pe_call (ok_Lis_told T O) (hr.mono (by decide)) (by rfl) O.m_Lis_told O.F_Lis_told.kp O.b_Lis_told .nil pass0 (pa_cons (pv 4) (pa_cons (pv 5) (pa_cons pe_int (pa_cons (pe_listRg rfl (by rfl) O.z_list (prg_1 (by rfl) O.z_range (pv 7))) pa_nil))))) (pe_cmpR op_le (pv 7) (pv 6) (nomark _)) (nomark _)) (pss_one (ps_ret pe_bl)) pss_nil)))
  (pss_one (ps_ret pe_bl))))))))), ?_⟩
  walk_at "r"
  refine dr hh (by decide) (by decide) fun z H1 z0 z1 k1 h1 => ?_
  obtain ⟨L, rfl⟩ : ∃ L : Nat, z = L := ⟨z.toNat, by omega⟩
  have hL : L ≤ 3 := by omega
  walk_at "r"
  refine ⟨h, hl, L, rfl, h1, by omega, fun ve de H2 k2 h2 he hE => ?_⟩
  walk_at "r"
  refine ⟨h, hl, L, rfl, h2, by omega, fun vw dw H3 k3 h3 hw hW => ?_⟩
  have he3 := (he.same k3.hide).same Jv.hide_le
  walk_at "r"
  refine ⟨L, ve, de, rfl, he3, hE, by omega, fun A a H4 hA s4 na ha => ?_⟩
  obtain ⟨m, hm⟩ := hW.of (L := L)
  have hm1 := hm.pos
  have hA1 := hA.len
  have kk := ((k1.trans k2).trans k3).trans (Jv.Kp.same s4)
  have hh4 := h3.same s4
  refine ⟨fun σ' H' => σ' = [some (.ref h), some (.int L), some ve, some vw, some (.ref a), some (.int m), none, none] ∧ H' = H4, ?_, ?_⟩
  · have nv : ∀ w : Int, dw = .int w → vw = .int w := fun w e => by
      have := hw H4
      subst e; cases this; rfl
    rcases hm with ⟨rfl, rfl⟩ | ⟨w, rfl, w1, w2⟩
    · have : vw = .non := by
        have := hw H4
        cases this; rfl
      subst this
      walk_at "r"
      exact ⟨rfl, rfl⟩
    · obtain rfl := nv w rfl
      walk_at "r"
      refine Jv.r_dec (fun hd => ?_) (fun hd => ?_)
      · walk_at "r"
        refine ⟨?_, rfl⟩
        rw [show ((m : Nat) : Int) = (L : Int) + 1 by split at w2 <;> omega]; rfl
      · walk_at "r"
        refine ⟨?_, rfl⟩
        rw [show ((m : Nat) : Int) = w by split at w2 <;> omega]; rfl
  rintro σ H5 ⟨rfl, rfl⟩
  have he4 := he3.same s4
  have done_ : tT m A = (due A (m - 1) 0).sum := by
    rw [due_T (by omega), show m - 1 + 1 = m by omega, List.drop_zero]
  walk_at "r"
  refine ⟨rfl, rfl, .int L, ve, vw, .int 0, rfl, Asked.good (st := 0) (by omega) he4 hA (hw _) hm (by omega) fun H6 s6 => ?_⟩
  rw [← done_]
  walk_at "r"
  refine ⟨1, 5, rfl, by decide, ?_⟩
  refine for_range (lo := 1) (n := ((5 : Int) - 1).toNat) (fun i σ H' => ∃ y7, σ = [some (.ref h), some (.int L), some ve, some vw, some (.ref a), some (.int m), some (.int (tT m A)), y7] ∧ Same H5 H') ⟨_, rfl, s6⟩ ?_ ?_
  · rintro i σ H7 hi ⟨y7, rfl, s7⟩
    have hi2 : i < 4 := hi
    walk_at "r"
    refine ⟨_, rfl, _, rfl, ?_⟩
    refine ⟨by unfold RgOk; omega, fun p hp => ?_⟩
    have s8 := Jv.same_new (u := .lst (rgV 0 (1 + (i : Nat)))) hp
    have ez : rgV 0 (1 + (i : Nat)) = ((List.range (1 + i)).map fun k : Nat => (k : Int)).map V.int := by
      unfold rgV
      rw [List.map_map, show ((1 : Int) + (i : Nat) - 0).toNat = 1 + i by omega]
      refine List.map_congr_left fun k _ => ?_
      show V.int _ = V.int _
      rw [Int.zero_add]
    have e8 : upd H7 p (.lst (rgV 0 (1 + (i : Nat)))) p = some (.lst (rgV 0 (1 + (i : Nat)))) := upd_same
    rw [ez] at e8 s8 ⊢
    walk_at "r"
    refine ⟨a, p, A, m, 0, (List.range (1 + i)).map fun k : Nat => (k : Int), rfl, s8 _ _ (s7 _ _ ha), e8, by omega, by omega, by simp, by simp; omega, by omega, fun H9 s9 => ?_⟩
    rw [List.length_map, List.length_range, List.drop_zero, show ((1 + i : Nat) : Int) = 1 + (i : Nat) by omega]
    walk_at "r"
    rw [decide_eq_true (rfl : V.bl (decide (1 + (i : Int) ≤ tT m A)) = V.bl (decide (1 + (i : Int) ≤ tT m A)))]
    walk_at "r"
    exact ⟨_, rfl, (s7.trans s8).trans s9⟩
  · rintro σ H7 ⟨y7, rfl, s7⟩
    walk_at "r"
    exact q _ (kk.trans (Jv.Kp.same s7)) (hh4.same s7)
end
end K35

namespace K35
open PySem PySem.Spec PyProof.Rows L2
/-! ### what is none -/
theorem new_of {H G : Hp} {p : Addr} {u : HO} (hp : H p = none) (e : L2.upd H p u = G) : Same H G ∧ G p = some u := by subst e; exact ⟨Jv.same_new hp, upd_same⟩
theorem pickV {K : PySem.W.Frag} {H : Hp} {Q : VK} {t : Addr} {xs : List V} {z : Int} (e : H t = some (.lst xs)) (z0 : 0 ≤ z) (z1 : z < xs.length) (k : ∀ v, v ∈ xs → Q v H) : rIxL K (.ref t) (.int z) H Q := by
  have hz : z.toNat < xs.length := by omega
  exact Jv.r_ixL (Jv.sqL_at e) (Jv.at_i z0 (List.getElem?_eq_getElem hz)) (k _ (List.getElem_mem hz))
theorem badE_flat {d : PyData} {L : Int} (h : Jv.seqD d = none) (n : d ≠ .none) : BadE d L := ⟨n, fun ds e => by rw [h] at e; cases e⟩
theorem badE_seq {d : PyData} {ds : List PyData} {L : Int} (h : Jv.seqD d = some ds) (b : ds.all (fun e => Jv.wholeD e (.int 0) (.int L)) = false) (few : ds.length ≤ 200 := by exact Nat.le_of_ble_eq_true rfl) : BadE d L :=
  ⟨fun e => (by rw [e] at h; cases h), fun es e => (by rw [h] at e; cases e; exact ⟨few, b⟩)⟩
theorem badE_dict {L : Int} : BadE (Jv.dctD []) L := ⟨fun e => (by cases e), fun ds e => (by cases e)⟩
def sp_Lodd_ladder (K : PySem.W.Frag) : Sp := fun vs H Q _ => ∃ h hl, vs = [.ref h, .int 30] ∧ Jv.Hand H h hl ∧ ∀ v d H', Jv.Kp h H H' → Jv.Hand H' h hl → Jv.Dv K (Jv.hide [h] H') v d → Jv.wholeD d (.int 0) (.int 30) = false → Q v H'
def sp_Lodd_ends (K : PySem.W.Frag) : Sp := fun vs H Q _ => ∃ h hl, ∃ L : Nat, vs = [.ref h, .int L] ∧ Jv.Hand H h hl ∧ ∀ v d H', Jv.Kp h H H' → Jv.Hand H' h hl → Jv.Dw K (Jv.hide [h] H') v d → BadE d L → Q v H'
def sp_Lodd_words (K : PySem.W.Frag) : Sp := fun vs H Q _ => ∃ h hl, vs = [.ref h] ∧ Jv.Hand H h hl ∧ ∀ v d H', Jv.Kp h H H' → Jv.Hand H' h hl → Jv.Dv K (Jv.hide [h] H') v d → BadW d → Q v H'
section
variable {P : Program} {w : World} {K : PySem.W.Frag} {mg : Str → Option Value} {base : Heap}
theorem ok_Lodd_ladder (T : Tx) (O : Ok K mg T) : FnOk P w K mg base CX0 3 T.f_Lodd_ladder T.d_Lodd_ladder ["_law_hand_here", "_law_most"] (sp_Lodd_ladder K) := by
  refine O.F_Lodd_ladder.ok sc_Lodd_ladder (fun vs H Q E h => by obtain ⟨_, _, rfl, _⟩ := h; rfl) (fun cdv A outer s H vs Q E hr h => ?_)
  obtain ⟨h, hl, rfl, hh, q⟩ := h
  refine ⟨_, (pss_cons (ps_set (i := 2) sc_Lodd_ladder.nd rfl (Or.inl rfl) (pe_lst (pa_cons (pe_un un_neg pe_int) (pa_cons (pe_op op_add (pv 1) pe_int) (pa_cons pe_non (pa_cons pe_bl (pa_cons pe_str (pa_cons (pe_tup (pa_cons pe_int pa_nil)) (pa_cons (pe_op op_pow pe_int pe_int) (pa_cons pe_bl (pa_cons (pe_un un_neg (pe_op op_pow pe_int pe_int)) (pa_cons (pe_lst (pa_cons pe_int pa_nil)) pa_nil))))))))))))
  (pss_one (ps_ret (pe_ix (r := rIxL K) ix_list (pv 2) (pe_call (ok_Ldraw T O) (hr.mono (by decide)) (by rfl) O.m_Ldraw O.F_Ldraw.kp O.b_Ldraw .nil pass0 (pa_cons (pv 0) (pa_cons (pe_callB (r := Jv.rLenK K) Jv.cr_len (by rfl) O.z_len (by decide +kernel) (pa_cons (pv 2) pa_nil)) pa_nil))) (fun _ _ => rfl))))), ?_⟩
  have kp : Jv.Kp h H H := Jv.Kp.refl
  walk_at "r"
  intro t1 ht1
  generalize e1 : L2.upd _ _ _ = G1
  obtain ⟨s1, f1⟩ := new_of ht1 e1
  clear e1
  obtain ⟨n1, _⟩ := hh.ne2 ht1
  replace hh := hh.same s1
  replace kp := kp.trans (Jv.Kp.same s1)
  clear s1 ht1
  walk_at "r"
  intro t2 ht2
  generalize e2 : L2.upd _ _ _ = G2
  obtain ⟨s2, f2⟩ := new_of ht2 e2
  clear e2
  obtain ⟨n2, _⟩ := hh.ne2 ht2
  replace hh := hh.same s2
  replace kp := kp.trans (Jv.Kp.same s2)
  replace f1 := s2 _ _ f1
  clear s2 ht2
  walk_at "r"
  intro t3 ht3
  generalize e3 : L2.upd _ _ _ = G3
  obtain ⟨s3, f3⟩ := new_of ht3 e3
  clear e3
  obtain ⟨n3, _⟩ := hh.ne2 ht3
  replace hh := hh.same s3
  replace kp := kp.trans (Jv.Kp.same s3)
  replace f1 := s3 _ _ f1
  replace f2 := s3 _ _ f2
  clear s3 ht3
  walk_at "r"
  refine dr (m := 10) hh (by decide) (by decide) fun z H4 z0 z1 k4 h4 => ?_
  replace f1 := k4 _ _ n1 f1
  replace f2 := k4 _ _ n2 f2
  replace f3 := k4 _ _ n3 f3
  replace kp := kp.trans k4
  walk_at "r"
  refine pickV f3 z0 z1 fun v hv => ?_
  simp only [List.mem_cons, List.not_mem_nil, or_false] at hv
  rcases hv with rfl | rfl | rfl | rfl | rfl | rfl | rfl | rfl | rfl | rfl
  · exact q _ (.int (-1)) _ kp h4 (.int _) (by first | rfl | decide +kernel)
  · exact q _ (.int (30 + 1)) _ kp h4 (.int _) (by first | rfl | decide +kernel)
  · exact q _ (.none) _ kp h4 (.non) (by first | rfl | decide +kernel)
  · exact q _ (.bool true) _ kp h4 (.bl _) (by first | rfl | decide +kernel)
  · exact q _ (.str "2") _ kp h4 (.str _) (by first | rfl | decide +kernel)
  · exact q _ (.tuple [.int (2)]) _ kp h4 (.tup (Jv.sqT_at (Jv.hide_one n1 f1)) (.cons (.int _) .nil)) (by first | rfl | decide +kernel)
  · exact q _ (.int (10 ^ Int.toNat 30)) _ kp h4 (.int _) (by first | rfl | decide +kernel)
  · exact q _ (.bool false) _ kp h4 (.bl _) (by first | rfl | decide +kernel)
  · exact q _ (.int (-10 ^ Int.toNat 20)) _ kp h4 (.int _) (by first | rfl | decide +kernel)
  · exact q _ (.list [.int (1)]) _ kp h4 (.lst (Jv.hide_one n2 f2) (.cons (.int _) .nil)) (by first | rfl | decide +kernel)
theorem ok_Lodd_ends (T : Tx) (O : Ok K mg T) : FnOk P w K mg base CX0 3 T.f_Lodd_ends T.d_Lodd_ends ["_law_hand_here", "_law_ladder"] (sp_Lodd_ends K) := by
  refine O.F_Lodd_ends.ok sc_Lodd_ends (fun vs H Q E h => by obtain ⟨_, _, _, rfl, _⟩ := h; rfl) (fun cdv A outer s H vs Q E hr h => ?_)
  obtain ⟨h, hl, L, rfl, hh, q⟩ := h
  refine ⟨_, (pss_cons (ps_set (i := 2) sc_Lodd_ends.nd rfl (Or.inl rfl) (pe_lst (pa_cons pe_int (pa_cons pe_str (pa_cons (pe_lst (pa_cons (pe_op op_add (pv 1) pe_int) pa_nil)) (pa_cons (pe_tup (pa_cons (pe_un un_neg pe_int) pa_nil)) (pa_cons (pe_lst (pa_cons pe_int (pa_cons pe_bl pa_nil))) (pa_cons (pe_lst (pa_cons pe_non pa_nil)) (pa_cons (pe_tup (pa_cons (pe_tup (pa_cons pe_int pa_nil)) pa_nil)) (pa_cons pe_dnewK (pa_cons (pe_lst (pa_cons pe_int (pa_cons (pe_un un_neg pe_int) pa_nil))) (pa_cons (pe_lst (pa_cons pe_int (pa_cons (pe_op op_add (pv 1) pe_int) pa_nil))) (pa_cons (pe_lst (pa_cons pe_str pa_nil)) (pa_cons (pe_op op_pow pe_int pe_int) pa_nil))))))))))))))
  (pss_one (ps_ret (pe_ix (r := rIxL K) ix_list (pv 2) (pe_call (ok_Ldraw T O) (hr.mono (by decide)) (by rfl) O.m_Ldraw O.F_Ldraw.kp O.b_Ldraw .nil pass0 (pa_cons (pv 0) (pa_cons (pe_callB (r := Jv.rLenK K) Jv.cr_len (by rfl) O.z_len (by decide +kernel) (pa_cons (pv 2) pa_nil)) pa_nil))) (fun _ _ => rfl))))), ?_⟩
  have kp : Jv.Kp h H H := Jv.Kp.refl
  walk_at "r"
  intro t1 ht1
  generalize e1 : L2.upd _ _ _ = G1
  obtain ⟨s1, f1⟩ := new_of ht1 e1
  clear e1
  obtain ⟨n1, _⟩ := hh.ne2 ht1
  replace hh := hh.same s1
  replace kp := kp.trans (Jv.Kp.same s1)
  clear s1 ht1
  walk_at "r"
  intro t2 ht2
  generalize e2 : L2.upd _ _ _ = G2
  obtain ⟨s2, f2⟩ := new_of ht2 e2
  clear e2
  obtain ⟨n2, _⟩ := hh.ne2 ht2
  replace hh := hh.same s2
  replace kp := kp.trans (Jv.Kp.same s2)
  replace f1 := s2 _ _ f1
  clear s2 ht2
  walk_at "r"
  intro t3 ht3
  generalize e3 : L2.upd _ _ _ = G3
  obtain ⟨s3, f3⟩ := new_of ht3 e3
  clear e3
  obtain ⟨n3, _⟩ := hh.ne2 ht3
  replace hh := hh.same s3
  replace kp := kp.trans (Jv.Kp.same s3)
  replace f1 := s3 _ _ f1
  replace f2 := s3 _ _ f2
  clear s3 ht3
  walk_at "r"
  intro t4 ht4
  generalize e4 : L2.upd _ _ _ = G4
  obtain ⟨s4, f4⟩ := new_of ht4 e4
  clear e4
  obtain ⟨n4, _⟩ := hh.ne2 ht4
  replace hh := hh.same s4
  replace kp := kp.trans (Jv.Kp.same s4)
  replace f1 := s4 _ _ f1
  replace f2 := s4 _ _ f2
  replace f3 := s4 _ _ f3
  clear s4 ht4
  walk_at "r"
  intro t5 ht5
  generalize e5 : L2.upd _ _ _ = G5
  obtain ⟨s5, f5⟩ := new_of ht5 e5
  clear e5
  obtain ⟨n5, _⟩ := hh.ne2 ht5
  replace hh := hh.same s5
  replace kp := kp.trans (Jv.Kp.same s5)
  replace f1 := s5 _ _ f1
  replace f2 := s5 _ _ f2
  replace f3 := s5 _ _ f3
  replace f4 := s5 _ _ f4
  clear s5 ht5
  walk_at "r"
  intro t6 ht6
  generalize e6 : L2.upd _ _ _ = G6
  obtain ⟨s6, f6⟩ := new_of ht6 e6
  clear e6
  obtain ⟨n6, _⟩ := hh.ne2 ht6
  replace hh := hh.same s6
  replace kp := kp.trans (Jv.Kp.same s6)
  replace f1 := s6 _ _ f1
  replace f2 := s6 _ _ f2
  replace f3 := s6 _ _ f3
  replace f4 := s6 _ _ f4
  replace f5 := s6 _ _ f5
  clear s6 ht6
  walk_at "r"
  intro t7 ht7
  generalize e7 : L2.upd _ _ _ = G7
  obtain ⟨s7, f7⟩ := new_of ht7 e7
  clear e7
  obtain ⟨n7, _⟩ := hh.ne2 ht7
  replace hh := hh.same s7
  replace kp := kp.trans (Jv.Kp.same s7)
  replace f1 := s7 _ _ f1
  replace f2 := s7 _ _ f2
  replace f3 := s7 _ _ f3
  replace f4 := s7 _ _ f4
  replace f5 := s7 _ _ f5
  replace f6 := s7 _ _ f6
  clear s7 ht7
  walk_at "r"
  intro t8 ht8
  generalize e8 : L2.upd _ _ _ = G8
  obtain ⟨s8, f8⟩ := new_of ht8 e8
  clear e8
  obtain ⟨n8, _⟩ := hh.ne2 ht8
  replace hh := hh.same s8
  replace kp := kp.trans (Jv.Kp.same s8)
  replace f1 := s8 _ _ f1
  replace f2 := s8 _ _ f2
  replace f3 := s8 _ _ f3
  replace f4 := s8 _ _ f4
  replace f5 := s8 _ _ f5
  replace f6 := s8 _ _ f6
  replace f7 := s8 _ _ f7
  clear s8 ht8
  walk_at "r"
  intro t9 ht9
  generalize e9 : L2.upd _ _ _ = G9
  obtain ⟨s9, f9⟩ := new_of ht9 e9
  clear e9
  obtain ⟨n9, _⟩ := hh.ne2 ht9
  replace hh := hh.same s9
  replace kp := kp.trans (Jv.Kp.same s9)
  replace f1 := s9 _ _ f1
  replace f2 := s9 _ _ f2
  replace f3 := s9 _ _ f3
  replace f4 := s9 _ _ f4
  replace f5 := s9 _ _ f5
  replace f6 := s9 _ _ f6
  replace f7 := s9 _ _ f7
  replace f8 := s9 _ _ f8
  clear s9 ht9
  walk_at "r"
  intro t10 ht10
  generalize e10 : L2.upd _ _ _ = G10
  obtain ⟨s10, f10⟩ := new_of ht10 e10
  clear e10
  obtain ⟨n10, _⟩ := hh.ne2 ht10
  replace hh := hh.same s10
  replace kp := kp.trans (Jv.Kp.same s10)
  replace f1 := s10 _ _ f1
  replace f2 := s10 _ _ f2
  replace f3 := s10 _ _ f3
  replace f4 := s10 _ _ f4
  replace f5 := s10 _ _ f5
  replace f6 := s10 _ _ f6
  replace f7 := s10 _ _ f7
  replace f8 := s10 _ _ f8
  replace f9 := s10 _ _ f9
  clear s10 ht10
  walk_at "r"
  intro t11 ht11
  generalize e11 : L2.upd _ _ _ = G11
  obtain ⟨s11, f11⟩ := new_of ht11 e11
  clear e11
  obtain ⟨n11, _⟩ := hh.ne2 ht11
  replace hh := hh.same s11
  replace kp := kp.trans (Jv.Kp.same s11)
  replace f1 := s11 _ _ f1
  replace f2 := s11 _ _ f2
  replace f3 := s11 _ _ f3
  replace f4 := s11 _ _ f4
  replace f5 := s11 _ _ f5
  replace f6 := s11 _ _ f6
  replace f7 := s11 _ _ f7
  replace f8 := s11 _ _ f8
  replace f9 := s11 _ _ f9
  replace f10 := s11 _ _ f10
  clear s11 ht11
  walk_at "r"
  refine dr (m := 12) hh (by decide) (by decide) fun z H4 z0 z1 k4 h4 => ?_
  replace f1 := k4 _ _ n1 f1
  replace f2 := k4 _ _ n2 f2
  replace f3 := k4 _ _ n3 f3
  replace f4 := k4 _ _ n4 f4
  replace f5 := k4 _ _ n5 f5
  replace f6 := k4 _ _ n6 f6
  replace f7 := k4 _ _ n7 f7
  replace f8 := k4 _ _ n8 f8
  replace f9 := k4 _ _ n9 f9
  replace f10 := k4 _ _ n10 f10
  replace f11 := k4 _ _ n11 f11
  replace kp := kp.trans k4
  walk_at "r"
  refine pickV f11 z0 z1 fun v hv => ?_
  simp only [List.mem_cons, List.not_mem_nil, or_false] at hv
  rcases hv with rfl | rfl | rfl | rfl | rfl | rfl | rfl | rfl | rfl | rfl | rfl | rfl
  · exact q _ (.int (0)) _ kp h4 (.dv (.int _)) (badE_flat rfl (by simp))
  · exact q _ (.str "01") _ kp h4 (.dv (.str _)) (badE_flat rfl (by simp))
  · exact q _ (.list [.int ((L : Nat) + 1)]) _ kp h4 (.dv (.lst (Jv.hide_one n1 f1) (.cons (.int _) .nil))) (badE_seq (by rfl) (by first | rfl | decide +kernel | (simp [Jv.wholeD, Jv.loOk, Jv.hiOk]; done) | (simp [Jv.wholeD, Jv.loOk, Jv.hiOk]; omega)))
  · exact q _ (.tuple [.int (-1)]) _ kp h4 (.dv (.tup (Jv.sqT_at (Jv.hide_one n2 f2)) (.cons (.int _) .nil))) (badE_seq (by rfl) (by first | rfl | decide +kernel | (simp [Jv.wholeD, Jv.loOk, Jv.hiOk]; done) | (simp [Jv.wholeD, Jv.loOk, Jv.hiOk]; omega)))
  · exact q _ (.list [.int (0), .bool true]) _ kp h4 (.dv (.lst (Jv.hide_one n3 f3) (.cons (.int _) (.cons (.bl _) .nil)))) (badE_seq (by rfl) (by first | rfl | decide +kernel | (simp [Jv.wholeD, Jv.loOk, Jv.hiOk]; done) | (simp [Jv.wholeD, Jv.loOk, Jv.hiOk]; omega)))
  · exact q _ (.list [.none]) _ kp h4 (.dv (.lst (Jv.hide_one n4 f4) (.cons (.non) .nil))) (badE_seq (by rfl) (by first | rfl | decide +kernel | (simp [Jv.wholeD, Jv.loOk, Jv.hiOk]; done) | (simp [Jv.wholeD, Jv.loOk, Jv.hiOk]; omega)))
  · exact q _ (.tuple [.tuple [.int (0)]]) _ kp h4 (.dv (.tup (Jv.sqT_at (Jv.hide_one n6 f6)) (.cons (.tup (Jv.sqT_at (Jv.hide_one n5 f5)) (.cons (.int _) .nil)) .nil))) (badE_seq (by rfl) (by first | rfl | decide +kernel | (simp [Jv.wholeD, Jv.loOk, Jv.hiOk]; done) | (simp [Jv.wholeD, Jv.loOk, Jv.hiOk]; omega)))
  · exact q _ (Jv.dctD []) _ kp h4 (.dct (Jv.hide_one n7 f7)) badE_dict
  · exact q _ (.list [.int (0), .int (-1)]) _ kp h4 (.dv (.lst (Jv.hide_one n8 f8) (.cons (.int _) (.cons (.int _) .nil)))) (badE_seq (by rfl) (by first | rfl | decide +kernel | (simp [Jv.wholeD, Jv.loOk, Jv.hiOk]; done) | (simp [Jv.wholeD, Jv.loOk, Jv.hiOk]; omega)))
  · exact q _ (.list [.int (0), .int ((L : Nat) + 1)]) _ kp h4 (.dv (.lst (Jv.hide_one n9 f9) (.cons (.int _) (.cons (.int _) .nil)))) (badE_seq (by rfl) (by first | rfl | decide +kernel | (simp [Jv.wholeD, Jv.loOk, Jv.hiOk]; done) | (simp [Jv.wholeD, Jv.loOk, Jv.hiOk]; omega)))
  · exact q _ (.list [.str "0"]) _ kp h4 (.dv (.lst (Jv.hide_one n10 f10) (.cons (.str _) .nil))) (badE_seq (by rfl) (by first | rfl | decide +kernel | (simp [Jv.wholeD, Jv.loOk, Jv.hiOk]; done) | (simp [Jv.wholeD, Jv.loOk, Jv.hiOk]; omega)))
  · exact q _ (.int (10 ^ Int.toNat 20)) _ kp h4 (.dv (.int _)) (badE_flat rfl (by simp))
theorem ok_Lodd_words (T : Tx) (O : Ok K mg T) : FnOk P w K mg base CX0 3 T.f_Lodd_words T.d_Lodd_words ["_law_hand_here"] (sp_Lodd_words K) := by
  refine O.F_Lodd_words.ok sc_Lodd_words (fun vs H Q E h => by obtain ⟨_, _, rfl, _⟩ := h; rfl) (fun cdv A outer s H vs Q E hr h => ?_)
  obtain ⟨h, hl, rfl, hh, q⟩ := h
  refine ⟨_, (pss_cons (ps_set (i := 1) sc_Lodd_words.nd rfl (Or.inl rfl) (pe_lst (pa_cons pe_int (pa_cons (pe_un un_neg pe_int) (pa_cons pe_bl (pa_cons pe_str (pa_cons (pe_tup (pa_cons pe_int pa_nil)) (pa_cons (pe_un un_neg (pe_op op_pow pe_int pe_int)) (pa_cons (pe_lst (pa_cons pe_int pa_nil)) (pa_cons pe_bl pa_nil))))))))))
  (pss_one (ps_ret (pe_ix (r := rIxL K) ix_list (pv 1) (pe_call (ok_Ldraw T O) (hr.mono (by decide)) (by rfl) O.m_Ldraw O.F_Ldraw.kp O.b_Ldraw .nil pass0 (pa_cons (pv 0) (pa_cons (pe_callB (r := Jv.rLenK K) Jv.cr_len (by rfl) O.z_len (by decide +kernel) (pa_cons (pv 1) pa_nil)) pa_nil))) (fun _ _ => rfl))))), ?_⟩
  have kp : Jv.Kp h H H := Jv.Kp.refl
  walk_at "r"
  intro t1 ht1
  generalize e1 : L2.upd _ _ _ = G1
  obtain ⟨s1, f1⟩ := new_of ht1 e1
  clear e1
  obtain ⟨n1, _⟩ := hh.ne2 ht1
  replace hh := hh.same s1
  replace kp := kp.trans (Jv.Kp.same s1)
  clear s1 ht1
  walk_at "r"
  intro t2 ht2
  generalize e2 : L2.upd _ _ _ = G2
  obtain ⟨s2, f2⟩ := new_of ht2 e2
  clear e2
  obtain ⟨n2, _⟩ := hh.ne2 ht2
  replace hh := hh.same s2
  replace kp := kp.trans (Jv.Kp.same s2)
  replace f1 := s2 _ _ f1
  clear s2 ht2
  walk_at "r"
  intro t3 ht3
  generalize e3 : L2.upd _ _ _ = G3
  obtain ⟨s3, f3⟩ := new_of ht3 e3
  clear e3
  obtain ⟨n3, _⟩ := hh.ne2 ht3
  replace hh := hh.same s3
  replace kp := kp.trans (Jv.Kp.same s3)
  replace f1 := s3 _ _ f1
  replace f2 := s3 _ _ f2
  clear s3 ht3
  walk_at "r"
  refine dr (m := 8) hh (by decide) (by decide) fun z H4 z0 z1 k4 h4 => ?_
  replace f1 := k4 _ _ n1 f1
  replace f2 := k4 _ _ n2 f2
  replace f3 := k4 _ _ n3 f3
  replace kp := kp.trans k4
  walk_at "r"
  refine pickV f3 z0 z1 fun v hv => ?_
  simp only [List.mem_cons, List.not_mem_nil, or_false] at hv
  rcases hv with rfl | rfl | rfl | rfl | rfl | rfl | rfl | rfl
  · exact q _ (.int (0)) _ kp h4 (.int _) ⟨by simp, by first | rfl | decide +kernel⟩
  · exact q _ (.int (-1)) _ kp h4 (.int _) ⟨by simp, by first | rfl | decide +kernel⟩
  · exact q _ (.bool true) _ kp h4 (.bl _) ⟨by simp, by first | rfl | decide +kernel⟩
  · exact q _ (.str "2") _ kp h4 (.str _) ⟨by simp, by first | rfl | decide +kernel⟩
  · exact q _ (.tuple [.int (1)]) _ kp h4 (.tup (Jv.sqT_at (Jv.hide_one n1 f1)) (.cons (.int _) .nil)) ⟨by simp, by first | rfl | decide +kernel⟩
  · exact q _ (.int (-10 ^ Int.toNat 20)) _ kp h4 (.int _) ⟨by simp, by first | rfl | decide +kernel⟩
  · exact q _ (.list [.int (3)]) _ kp h4 (.lst (Jv.hide_one n2 f2) (.cons (.int _) .nil)) ⟨by simp, by first | rfl | decide +kernel⟩
  · exact q _ (.bool false) _ kp h4 (.bl _) ⟨by simp, by first | rfl | decide +kernel⟩
end
end K35

namespace Jv
open PySem PySem.Spec PyProof.Rows L2
/-! ### a clause of another class -/
theorem exm_no {K : PySem.W.Frag} {C D : Addr} (b : PySem.W.subIn K (.ref D) (.type "BaseException") = some true) (i : PySem.W.isClsIn K D = true) (t : PySem.W.typeIn K (.ref D) = some (.type "type")) (s : PySem.W.subIn K (.ref C) (.ref D) = some false) :
    PySem.W.exmOne K (.ref C) (.ref D) = some false := by
  have i' : (PySem.W.clsIn K D).isSome = true := i
  unfold PySem.W.exmOne PySem.W.kitCls
  simp [b, i', t, s]
theorem ExcP.no {K : PySem.W.Frag} {C D : Addr} (h : ExcP K D) (s : PySem.W.subIn K (.ref C) (.ref D) = some false) : PySem.W.exmOne K (.ref C) (.ref D) = some false := exm_no h.b h.i h.t s
end Jv
namespace K35
open PySem PySem.Spec PyProof.Rows L2
/-! ### at the door; what a call that is handed in tells -/
def sp_Lat_door (K : PySem.W.Frag) (T : Tx) : Sp := fun vs H Q E => ∃ (way : Int) (vl ve vw vd : V), vs = [.int way, vl, ve, vw, vd] ∧ Asked K T H vl ve vw vd E fun _ => False
/-- the call's reading: a raise of an exception without fields, or an answer -/
def TTref (T : Tx) : (XK → Hp → VK → Prop) → Hp → VK → Prop := fun tl H Q => ∀ R : VK, (∀ v H', Q v H' → R v H') →
  tl (fun cls d H' => d = none ∧ ((cls = .ref T.C_BadLadder ∧ Q (.str "ladder") H') ∨ (cls = .ref T.C_BadEnds ∧ Q (.str "ends") H') ∨ (cls = .ref T.C_BadWords ∧ Q (.str "words") H') ∨ (cls = .ref T.C_BadEnd ∧ Q (.str "end") H'))) H R
theorem slots2 {σ : L2.St} (h : σ.length = 2) : ∃ x y, σ = [x, y] := by
  match σ, h with
  | [x, y], _ => exact ⟨x, y, rfl⟩
section
variable {X : Cx}
theorem refused_gives (T : Tx) (O : Ok X.K X.mg T) {g : Addr} {cdg : Value} {q : Str} : LamX.GivesTo X ["_law_call", "_law_found"] "_law_refused" (defScope s_Lrefused) g cdg (defBody s_Lrefused) "_law_call" q (TTref T) := by
  intro f c' s H Q tl act hc h
  refine ⟨_, (pss_cons (Jv.ps_tryMix rfl rfl takes0 (Jv.Cls2.bare ⟨rfl, by decide, .inl O.m_BadLadder⟩ (fun a oe cls d pn _ _ => (pss_one (ps_ret pe_str))) (Jv.Cls2.bare ⟨rfl, by decide, .inl O.m_BadEnds⟩ (fun a oe cls d pn _ _ => (pss_one (ps_ret pe_str))) (Jv.Cls2.bare ⟨rfl, by decide, .inl O.m_BadWords⟩ (fun a oe cls d pn _ _ => (pss_one (ps_ret pe_str))) (Jv.Cls2.bare ⟨rfl, by decide, .inl O.m_BadEnd⟩ (fun a oe cls d pn _ _ => (pss_one (ps_ret pe_str))) Jv.Cls2.nil)))) (fun W pn xe tk _ => (pss_one (ps_set (i := 1) sc_Lrefused.nd rfl (Or.inl rfl) (Jv.pe_exL (n := 2) rfl tk fun E W2 tk2 hW => act W2 pn xe E _ _ tk2 hW)))))
  (pss_one (ps_ret (pv 1)))), ?_⟩
  refine ⟨fun cls d H' => d = none ∧ ((cls = .ref T.C_BadLadder ∧ Q (.str "ladder") H') ∨ (cls = .ref T.C_BadEnds ∧ Q (.str "ends") H') ∨ (cls = .ref T.C_BadWords ∧ Q (.str "words") H') ∨ (cls = .ref T.C_BadEnd ∧ Q (.str "end") H')), fun cls d σ' H' hE hl => ?_, rfl, hc, h _ fun v H' hv => ?_⟩
  · obtain ⟨s0, s1, rfl⟩ := slots2 hl
    obtain ⟨rfl, ⟨rfl, k⟩ | ⟨rfl, k⟩ | ⟨rfl, k⟩ | ⟨rfl, k⟩⟩ := hE
    · refine ⟨true, O.e_BadLadder.e, fun _ a ha => ?_, fun z => nomatch z⟩
      walk_at "r"
      exact k
    · refine ⟨false, O.e_BadLadder.no O.u_BadEnds_BadLadder, fun z => (nomatch z), fun _ => ?_⟩
      refine ⟨true, O.e_BadEnds.e, fun _ a ha => ?_, fun z => nomatch z⟩
      walk_at "r"
      exact k
    · refine ⟨false, O.e_BadLadder.no O.u_BadWords_BadLadder, fun z => (nomatch z), fun _ => ?_⟩
      refine ⟨false, O.e_BadEnds.no O.u_BadWords_BadEnds, fun z => (nomatch z), fun _ => ?_⟩
      refine ⟨true, O.e_BadWords.e, fun _ a ha => ?_, fun z => nomatch z⟩
      walk_at "r"
      exact k
    · refine ⟨false, O.e_BadLadder.no O.u_BadEnd_BadLadder, fun z => (nomatch z), fun _ => ?_⟩
      refine ⟨false, O.e_BadEnds.no O.u_BadEnd_BadEnds, fun z => (nomatch z), fun _ => ?_⟩
      refine ⟨false, O.e_BadWords.no O.u_BadEnd_BadWords, fun z => (nomatch z), fun _ => ?_⟩
      refine ⟨true, O.e_BadEnd.e, fun _ a ha => ?_, fun z => nomatch z⟩
      walk_at "r"
      exact k
  · walk_at "r"
    exact hv
end
section
variable {P : Program} {w : World} {K : PySem.W.Frag} {mg : Str → Option Value} {base : Heap}
theorem ok_Lat_door (T : Tx) (O : Ok K mg T) : FnOk P w K mg base (L2.CX P w) 5 T.f_Lat_door T.d_Lat_door ["_law_way", "_law_ladder", "_law_limits", "_law_most", "_law_stood"] (sp_Lat_door K T) := by
  refine O.F_Lat_door.okX sc_Lat_door (fun vs H Q E h => by obtain ⟨_, _, _, _, _, rfl, _⟩ := h; rfl) (fun cdv A0 outer s H vs Q E hr h => ?_)
  obtain ⟨way, vl, ve, vw, vd, rfl, h⟩ := h
  refine ⟨_, (pss_cons (ps_if (pt_cmpR op_eq (pv 0) pe_int (nomark _)) (pss_one (ps_ret (Jv.pe_callNS (ok_told_within T O) (hr.mono (by decide)) (by rfl) O.m_told_within O.F_told_within.kp O.kb1_ends_words_end_told_within (fun σ => passAt (takes_of rfl rfl rfl rfl) σ) (pa_cons (pv 1) pa_nil) (pk_cons (pv 2) (pk_cons (pv 3) (pk_cons (pv 4) pk_nil)))))) pss_nil)
  (pss_one (ps_ret (Jv.pe_callNS (ok_told_split T O) (hr.mono (by decide)) (by rfl) O.m_told_split O.F_told_split.kp O.kb1_ends_words_end_told_split (fun σ => passAt (takes_of rfl rfl rfl rfl) σ) (pa_cons (pv 1) pa_nil) (pk_cons (pv 2) (pk_cons (pv 3) (pk_cons (pv 4) pk_nil))))))), ?_⟩
  walk_at "r"
  refine Jv.r_decI (fun _ => ?_) (fun _ => ?_)
  · walk_at "r"
    refine Jv.r_callNS ?_
    walk_at "r"
    exact ⟨rfl, rfl, vl, ve, vw, vd, rfl, h.imp fun _ z => z.elim⟩
  · refine Jv.r_next ?_
    walk_at "r"
    refine Jv.r_callNS ?_
    walk_at "r"
    exact ⟨rfl, rfl, vl, ve, vw, vd, rfl, h.imp fun _ z => z.elim⟩
end
end K35

namespace Jv
open PySem PySem.Spec PyProof.Rows L2
/-! ### what the text of data asks of it -/
theorem seq_two {d : PyData} {ds : List PyData} (h : seqD d = some ds) : d = .list ds ∨ d = .tuple ds := by
  cases d with
  | list xs => cases h; exact .inl rfl
  | tuple xs => cases h; exact .inr rfl
  | _ => cases h
theorem canAll_of : ∀ {ds : List PyData}, (∀ d ∈ ds, d.canLay0 = true) → PyData.canLayAll0 ds = true
  | [], _ => by simp [PyData.canLayAll0]
  | a :: r, h => by simp [PyData.canLayAll0, h a List.mem_cons_self, canAll_of fun d m => h d (List.mem_cons_of_mem _ m)]
theorem showAll_of : ∀ {ds : List PyData}, (∀ d ∈ ds, d.showable = true) → PyData.showableAll ds = true
  | [], _ => by simp [PyData.showableAll]
  | a :: r, h => by simp [PyData.showableAll, h a List.mem_cons_self, showAll_of fun d m => h d (List.mem_cons_of_mem _ m)]
theorem shortAll_of : ∀ {ds : List PyData}, (∀ d ∈ ds, d.intsShort 13 = true) → PyData.intsShortAll 13 ds = true
  | [], _ => by simp [PyData.intsShortAll]
  | a :: r, h => by simp [PyData.intsShortAll, h a List.mem_cons_self, shortAll_of fun d m => h d (List.mem_cons_of_mem _ m)]
theorem depAll_of {n : Nat} : ∀ {ds : List PyData}, (∀ d ∈ ds, d.depth ≤ n) → PyData.depthAll ds ≤ n
  | [], _ => by simp [PyData.depthAll]
  | a :: r, h => by
    have h1 := h a List.mem_cons_self
    have h2 := depAll_of fun d m => h d (List.mem_cons_of_mem _ m)
    simp [PyData.depthAll]; omega
theorem weightAll_of {n : Nat} : ∀ {ds : List PyData}, (∀ d ∈ ds, d.weight ≤ n) → PyData.weightAll ds ≤ (n + 1) * ds.length
  | [], _ => by simp [PyData.weightAll]
  | a :: r, h => by
    have h1 := h a List.mem_cons_self
    have h2 := weightAll_of fun d m => h d (List.mem_cons_of_mem _ m)
    simp only [PyData.weightAll, List.length_cons, Nat.mul_add]
    omega
/-- what the text of data asks of it -/
structure Lays (n m : Nat) (d : PyData) : Prop where
  can : d.canLay0 = true
  show_ : d.showable = true
  short : d.intsShort 13 = true
  dep : d.depth ≤ n
  wt : d.weight ≤ m
theorem Lays.seq {n m k : Nat} {d : PyData} {ds : List PyData} (h : seqD d = some ds) (hl : ds.length ≤ k) (hs : ∀ e ∈ ds, Lays n m e) : Lays (n + 1) ((m + 1) * k) d := by
  have c1 := canAll_of fun e he => (hs e he).can
  have c2 := showAll_of fun e he => (hs e he).show_
  have c3 := shortAll_of fun e he => (hs e he).short
  have c4 := depAll_of fun e he => (hs e he).dep
  have c5 := weightAll_of fun e he => (hs e he).wt
  have c6 : (m + 1) * ds.length ≤ (m + 1) * k := Nat.mul_le_mul_left _ hl
  rcases seq_two h with rfl | rfl
  · exact ⟨by simp only [PyData.canLay0]; exact c1, by simp only [PyData.showable]; exact c2, by simp only [PyData.intsShort]; exact c3, by simp only [PyData.depth]; omega, by simp only [PyData.weight]; omega⟩
  · exact ⟨by simp only [PyData.canLay0]; exact c1, by simp only [PyData.showable]; exact c2, by simp only [PyData.intsShort]; exact c3, by simp only [PyData.depth]; omega, by simp only [PyData.weight]; omega⟩
theorem Lays.mono {n n' m m' : Nat} {d : PyData} (h : Lays n m d) (h1 : n ≤ n') (h2 : m ≤ m') : Lays n' m' d := ⟨h.can, h.show_, h.short, Nat.le_trans h.dep h1, Nat.le_trans h.wt h2⟩
theorem lays_int {i : Int} (h : -100 ≤ i ∧ i ≤ 100) : Lays 0 8 (.int i) := by
  have hs : i.natAbs < 128 := by omega
  have h2 : i.natAbs.log2 ≤ 7 := by
    rcases Nat.eq_zero_or_pos i.natAbs with z | z
    · rw [z]; decide
    · have := (Nat.log2_lt (by omega)).mpr (show i.natAbs < 2 ^ 7 from hs)
      omega
  refine ⟨by simp [PyData.canLay0], by simp only [PyData.showable]; exact decide_eq_true (by omega), ?_, by simp [PyData.depth], ?_⟩
  · have := PyData.intsShortAll_ints [i] (fun n m => by rw [List.mem_singleton.mp m]; omega)
    simpa [PyData.intsShortAll] using this
  · simp only [PyData.weight]
    split <;> omega
theorem lays_str {z : Str} {n : Nat} (h : PyData.strOk z = true) (hl : z.length ≤ n) : Lays 0 n (.str z) := ⟨by simp only [PyData.canLay0]; exact h, by simp [PyData.showable], by simp [PyData.intsShort], by simp [PyData.depth], by simp only [PyData.weight]; exact hl⟩
theorem Lays.fits {n m : Nat} {d : PyData} (h : Lays n m d) (hn : n ≤ 60) (hm : m ≤ 1048576) : d.canLay0 = true ∧ d.depth ≤ 60 ∧ d.showable = true ∧ d.shown.length ≤ sizeLine := by
  have hlay : PyData.layable0 d = true := by
    show (PyData.canLay0 d && decide (PyData.depth d ≤ 64) && decide (PyData.weight d ≤ 2 ^ 20)) = true
    have h1 := h.dep
    have h2 := h.wt
    have h3 : (2 : Nat) ^ 20 = 1048576 := by decide
    rw [h.can, decide_eq_true (by omega), decide_eq_true (by omega)]; rfl
  exact ⟨h.can, Nat.le_trans h.dep hn, h.show_, PyData.shown_fits_of_layable0 (by decide) (by decide) hlay h.short⟩
end Jv

namespace Jv
open PySem PySem.Spec PyProof.Rows L2
/-! ### hand, data and tables where lambdas are made -/
theorem Hand.ext {H H' : Hp} {p l : Addr} (h : Hand H p l) (e : LamX.ExtN H H') : Hand H' p l := by
  obtain ⟨ns, k, c, t, hA⟩ := h
  exact ⟨ns, k, c, t, e _ _ hA.hp (fun ps z => by cases z), e _ _ hA.hl (fun ps z => by cases z), hA.nn, hA.few, hA.bd⟩
theorem tabs_kp {T : List (Addr × Str)} {H H' : Hp} {p l : Addr} (t : LamX.Tabs T H) (h : Hand H p l) (k : Kp p H H') : LamX.Tabs T H' := fun q hq => by
  obtain ⟨ps, h1, h2, h3⟩ := t q hq
  obtain ⟨ns, kk, c, tt, hA⟩ := h
  have ne : ∀ b o, H b = some o → (∀ xs, o ≠ .lst xs) → b ≠ p := fun b o e n z => by
    rw [z, hA.hp] at e
    exact n _ (Option.some.inj e).symm
  refine ⟨ps, k _ _ (ne _ _ h1 (fun xs z => by cases z)) h1, h2, fun pos cv hc => ?_⟩
  obtain ⟨c, e1, e2⟩ := h3 pos cv hc
  exact ⟨c, e1, k _ _ (ne _ _ e2 (fun xs z => by unfold LamX.CodeO at z; cases z)) e2⟩
theorem sqT_ext {K : PySem.W.Frag} {H H' : Hp} {a : Addr} {xs : List V} (e : LamX.ExtN H H') (h : SqT K H a xs) : SqT K H' a xs := by
  rcases h with (h | ⟨o, h⟩) | h
  · exact .inl (.inl (e _ _ h (fun _ z => by cases z)))
  · exact .inl (.inr ⟨o, e _ _ h (fun _ z => by cases z)⟩)
  · exact .inr h
mutual
theorem Dv.ext {K : PySem.W.Frag} {H H' : Hp} (s : LamX.ExtN H H') : ∀ {v : V} {d : PyData}, Dv K H v d → Dv K H' v d
  | _, _, .non => .non
  | _, _, .bl b => .bl b
  | _, _, .int i => .int i
  | _, _, .str x => .str x
  | _, _, .lst h q => .lst (s _ _ h (fun _ z => by cases z)) (DvAll.ext s q)
  | _, _, .tup h q => .tup (sqT_ext s h) (DvAll.ext s q)
theorem DvAll.ext {K : PySem.W.Frag} {H H' : Hp} (s : LamX.ExtN H H') : ∀ {vs : List V} {ds : List PyData}, DvAll K H vs ds → DvAll K H' vs ds
  | _, _, .nil => .nil
  | _, _, .cons a b => .cons (Dv.ext s a) (DvAll.ext s b)
end
theorem Dw.ext {K : PySem.W.Frag} {H H' : Hp} {v : V} {d : PyData} (s : LamX.ExtN H H') (h : Dw K H v d) : Dw K H' v d := by
  cases h with
  | dv h => exact .dv (h.ext s)
  | dct h => exact .dct (s _ _ h (fun _ z => by cases z))
end Jv
namespace K35
open PySem PySem.Spec PyProof.Rows L2
/-! ### what stands through the law's loop -/
structure Gd (K : PySem.W.Frag) (h : Addr) (H : Hp) (L : Nat) (ve vw : V) (de dw : PyData) (A : List Bool) (a : Addr) : Prop where
  hL : L ≤ 30
  he : Jv.Dv K (Jv.hide [h] H) ve de
  hE : EndsV L de
  hA : EndsOf de L A
  hw : ∀ Hx, Jv.Dv K Hx vw dw
  hW : WordsV dw
  ha : H a = some (.lst (blV A))
  na : a ≠ h
theorem Gd.kp {K : PySem.W.Frag} {h a : Addr} {H H' : Hp} {L : Nat} {ve vw : V} {de dw : PyData} {A : List Bool} (g : Gd K h H L ve vw de dw A a) (k : Jv.Kp h H H') : Gd K h H' L ve vw de dw A a :=
  ⟨g.hL, g.he.same k.hide, g.hE, g.hA, g.hw, g.hW, k _ _ g.na g.ha, g.na⟩
theorem EndsV.lays {L : Nat} {d : PyData} (h : EndsV L d) (hL : L ≤ 30) : (∀ ds, Jv.seqD d = some ds → d.canLay0 = true) ∧ Jv.ShowOk d := by
  rcases h with rfl | ⟨ns, e, h1, h2⟩
  · exact ⟨fun ds z => (by cases z), trivial⟩
  · have l := Jv.Lays.seq (n := 0) (m := 8) (k := 70) e (by rw [List.length_map]; exact h2) (fun x hx => by
      obtain ⟨z, hz, rfl⟩ := List.mem_map.mp hx
      have := h1 z hz
      exact Jv.lays_int (by omega))
    obtain ⟨f1, f2, f3, f4⟩ := l.fits (by decide) (by decide)
    refine ⟨fun _ _ => f1, ?_⟩
    rcases Jv.seq_two e with rfl | rfl <;> exact ⟨f3, f2, f4⟩
theorem top_range {L : Nat} : ((List.range (L + 1)).map fun k : Nat => decide ((k : Int) ∈ [(L : Int)])) = List.replicate L false ++ [true] := by
  rw [List.range_succ, List.map_append]
  congr 1
  · refine List.eq_replicate_iff.mpr ⟨by simp, fun b hb => ?_⟩
    obtain ⟨k, hk, rfl⟩ := List.mem_map.mp hb
    have := List.mem_range.mp hk
    exact decide_eq_false (by simp; omega)
  · simp
/-- what stands where lambdas are made -/
structure Od (K : PySem.W.Frag) (H : Hp) (L : Nat) (vo oe ow vd ve vw : V) (oD eD wD dE de dw : PyData) (A : List Bool) (a : Addr) : Prop where
  vo : Jv.Dv K H vo oD
  bo : Jv.wholeD oD (.int 0) (.int 30) = false
  oe : Jv.Dw K H oe eD
  be : BadE eD L
  ow : Jv.Dv K H ow wD
  bw : BadW wD
  vd : Jv.Dv K H vd dE
  bd : Jv.wholeD dE (.int 0) (.int L) = false
  ve : Jv.Dv K H ve de
  vw : Jv.Dv K H vw dw
  ha : H a = some (.lst (blV A))
theorem Od.ext {K : PySem.W.Frag} {H H' : Hp} {L : Nat} {vo oe ow vd ve vw : V} {oD eD wD dE de dw : PyData} {A : List Bool} {a : Addr} (o : Od K H L vo oe ow vd ve vw oD eD wD dE de dw A a) (e : LamX.ExtN H H') : Od K H' L vo oe ow vd ve vw oD eD wD dE de dw A a :=
  ⟨o.vo.ext e, o.bo, o.oe.ext e, o.be, o.ow.ext e, o.bw, o.vd.ext e, o.bd, o.ve.ext e, o.vw.ext e, e _ _ o.ha (fun _ z => by cases z)⟩
theorem whole_big {L : Nat} (h : L ≤ 30) : Jv.wholeD (.int (10 ^ Int.toNat 20)) (.int 0) (.int L) = false := by
  have b : (31 : Int) ≤ 10 ^ Int.toNat 20 := by decide +kernel
  simp only [Jv.wholeD, Jv.loOk, Jv.hiOk]
  rw [Bool.and_eq_false_iff]
  exact .inr (decide_eq_false (by omega))
theorem whole_next {L : Nat} : Jv.wholeD (.int ((L : Int) + 1)) (.int 0) (.int L) = false := by
  simp only [Jv.wholeD, Jv.loOk, Jv.hiOk]
  rw [Bool.and_eq_false_iff]
  exact .inr (decide_eq_false (by omega))
def sp_lawT (K : PySem.W.Frag) (Pt : Addr) : Sp := fun vs H Q _ => ∃ (a : Addr) (ns : List Int), vs = [.ref a] ∧ SqL K H a (ns.map V.int) ∧ ns.length ≤ 63 ∧ H Pt = some (.tbl #[]) ∧ ∀ H', Q (.bl true) H'
abbrev TLof (Pt : Addr) : List (Addr × Str) := [(Pt, ("law" ++ ".<locals>.") ++ "<lambda>")]
structure LawC (K : PySem.W.Frag) (T : Tx) (c : Addr) : Prop where
  ex : ∃ (oc : Value) (od : Option Addr) (kV doc pm : Value) (an : Option Addr) (ct : Value) (osl : Array (Option Value)),
    T.d_law = PySem.W.fnOf "law" "law" (defArgs s_law) (defBody s_law) (defScope s_law) .none kV doc pm an (.ref c) ct ∧ K.lookup T.f_law = some ⟨oc, od, .func T.d_law, osl⟩ ∧ PySem.W.codeIn K (.ref c) "law" = true
end K35

namespace K35
open PySem PySem.Spec PyProof.Rows L2
/-! ### the law -/
section
variable {P : Program} {w : World} {K : PySem.W.Frag} {mg : Str → Option Value} {base : Heap}
theorem ok_law (T : Tx) (O : Ok K mg T) {c Pt : Addr} (C : LawC K T c) (TB : LamX.TabB base mg c Pt) : Jv.FnG P w K mg base CX0 8 T.f_law T.d_law ["_law_script"] (sp_lawT K Pt) := by
  obtain ⟨oc, od, kV, doc, pm, an, ct, osl, ed, lk, hcd⟩ := C.ex
  obtain ⟨_, _, _, _, _, _, cdvR, _, _, edR, lkR, hcR⟩ := O.F_Lrefused.ex
  have bR := O.b_Lrefused
  rw [edR] at lkR bR
  refine Jv.fun_okCG ed lk hcd sc_law (fun vs H Q E h => by obtain ⟨_, _, rfl, _⟩ := h; rfl) (fun A0 outer s H vs Q E gd hr h => ?_)
  obtain ⟨sc, ns, rfl, hS, few, hP, fin⟩ := h
  refine ⟨_, (pss_cons (ps_set (i := 1) sc_law.nd rfl (Or.inl rfl) (pe_call (ok_Lhand T O) (hr.mono (by decide)) (by rfl) O.m_Lhand O.F_Lhand.kp O.b_Lhand .nil pass0 (pa_cons (pv 0) pa_nil)))
  (pss_cons (ps_for PassesOwn.never rfl (pi_range1 (by rfl) O.z_range (pa_cons pe_int pa_nil)) (pg_name (i := 2) sc_law.nd rfl (Or.inl rfl)) (pss_cons (ps_set (i := 9) sc_law.nd rfl (Or.inr rfl) (pe_call (ok_Ldraw T O) (hr.mono (by decide)) (by rfl) O.m_Ldraw O.F_Ldraw.kp O.b_Ldraw .nil pass0 (pa_cons (pv 1) (pa_cons pe_int pa_nil))))
  (C8.pss_cut (ps_if (pt_cmpR op_eq (pe_call (ok_Ldraw T O) (hr.mono (by decide)) (by rfl) O.m_Ldraw O.F_Ldraw.kp O.b_Ldraw .nil pass0 (pa_cons (pv 1) (pa_cons pe_int pa_nil))) pe_int (nomark _)) (pss_one (ps_set (i := 9) sc_law.nd rfl (Or.inr rfl) (pe_call (ok_Ldraw T O) (hr.mono (by decide)) (by rfl) O.m_Ldraw O.F_Ldraw.kp O.b_Ldraw .nil pass0 (pa_cons (pv 1) (pa_cons pe_int pa_nil))))) pss_nil)
  (pss_cons (ps_set (i := 10) sc_law.nd rfl (Or.inr rfl) (pe_call (ok_Lsome_ends T O) (hr.mono (by decide)) (by rfl) O.m_Lsome_ends O.F_Lsome_ends.kp O.b_Lsome_ends .nil pass0 (pa_cons (pv 1) (pa_cons (pv 9) pa_nil))))
  (pss_cons (ps_set (i := 11) sc_law.nd rfl (Or.inr rfl) (pe_call (ok_Lsome_words T O) (hr.mono (by decide)) (by rfl) O.m_Lsome_words O.F_Lsome_words.kp O.b_Lsome_words .nil pass0 (pa_cons (pv 1) (pa_cons (pe_callB (r := Jv.rMin2) (call_min2 rfl) (by rfl) O.z_min (by decide +kernel) (pa_cons (pv 9) (pa_cons pe_int pa_nil))) pa_nil))))
  (C8.pss_cut (ps_set (i := 3) sc_law.nd rfl (Or.inl rfl) (pe_ifExp (pt_cmpR op_eq (pe_call (ok_Ldraw T O) (hr.mono (by decide)) (by rfl) O.m_Ldraw O.F_Ldraw.kp O.b_Ldraw .nil pass0 (pa_cons (pv 1) (pa_cons pe_int pa_nil))) pe_int (nomark _)) (pe_call (ok_Ldraw T O) (hr.mono (by decide)) (by rfl) O.m_Ldraw O.F_Ldraw.kp O.b_Ldraw .nil pass0 (pa_cons (pv 1) (pa_cons (pe_op op_add (pv 9) pe_int) pa_nil))) pe_int))
  (pss_cons (ps_set (i := 4) sc_law.nd rfl (Or.inl rfl) (pe_call (ok_Lallowed T O) (hr.mono (by decide)) (by rfl) O.m_Lallowed O.F_Lallowed.kp O.b_Lallowed .nil pass0 (pa_cons (pv 9) (pa_cons (pv 10) pa_nil))))
  (pss_cons (ps_set (i := 5) sc_law.nd rfl (Or.inl rfl) (pe_call (ok_Lsplit T O) (hr.mono (by decide)) (by rfl) O.m_Lsplit O.F_Lsplit.kp O.b_Lsplit .nil pass0 (pa_cons (pv 4) (pa_cons (pv 11) (pa_cons (pv 3) pa_nil)))))
  (pss_cons (ps_set (i := 6) sc_law.nd rfl (Or.inl rfl) (pe_callB (r := Jv.rReprW K) (Jv.call_reprW gd hr.units) (by rfl) O.z_repr (by decide +kernel) (pa_cons (pv 10) pa_nil)))
  (pss_cons (ps_set (i := 7) sc_law.nd rfl (Or.inl rfl) (pe_callN (E := E0) (ok_told_split T O) (hr.mono (by decide)) (by rfl) O.m_told_split O.F_told_split.kp O.kb1_ends_words_end_told_split passL (pa_cons (pv 9) pa_nil) (pk_cons (pv 10) (pk_cons (pv 11) (pk_cons (pv 3) pk_nil)))))
  (pss_cons (ps_if (PW.pt (pw_or (pt_not (pt_val (pe_call (ok_Lnumbers T O) (hr.mono (by decide)) (by rfl) O.m_Lnumbers O.F_Lnumbers.kp O.b_Lnumbers .nil pass0 (pa_cons (pv 7) (pa_cons (pe_callB (r := Jv.rLenK K) Jv.cr_len (by rfl) O.z_len (by decide +kernel) (pa_cons (pv 5) pa_nil)) pa_nil))))) (pw_or1 (pt_cmpR (r := rNeD K) (op_neD hr.units) (pv 7) (pe_callTy (r := Jv.rTupOf K) call_tuple_of (by rfl) O.z_tuple (by decide +kernel) (pa_cons (pv 5) pa_nil)) (nomark _))))) (pss_one (ps_ret pe_bl)) pss_nil)
  (pss_cons (ps_set (i := 8) sc_law.nd rfl (Or.inl rfl) (pe_callN (E := E0) (ok_told_within T O) (hr.mono (by decide)) (by rfl) O.m_told_within O.F_told_within.kp O.kb1_ends_words_end_told_within passL (pa_cons (pv 9) pa_nil) (pk_cons (pv 10) (pk_cons (pv 11) (pk_cons (pv 3) pk_nil)))))
  (pss_cons (ps_if (PW.pt (pw_or (pt_not (pt_val (pe_call (ok_Lis_number T O) (hr.mono (by decide)) (by rfl) O.m_Lis_number O.F_Lis_number.kp O.b_Lis_number .nil pass0 (pa_cons (pv 8) pa_nil)))) (pw_or (pt_cmpR op_ne (pv 8) (pe_callB (r := rSum K) (cr_sum rfl) (by rfl) O.z_sum (by decide +kernel) (pa_cons (pv 5) pa_nil)) (nomark _)) (pw_or1 (pt_cmpR op_ne (pe_callB (r := Jv.rReprW K) (Jv.call_reprW gd hr.units) (by rfl) O.z_repr (by decide +kernel) (pa_cons (pv 10) pa_nil)) (pv 6) (nomark _)))))) (pss_one (ps_ret pe_bl)) pss_nil)
  (pss_cons (ps_if (pt_cmpR op_ne (pe_callN (E := E0) (ok_told_within T O) (hr.mono (by decide)) (by rfl) O.m_told_within O.F_told_within.kp O.kb1_words_ends_told_within passL (pa_cons (pv 9) pa_nil) (pk_cons (pv 11) (pk_cons (pv 10) pk_nil))) (pe_callB (r := rSum K) (cr_sum rfl) (by rfl) O.z_sum (by decide +kernel) (pa_cons (pe_call (ok_Lsplit T O) (hr.mono (by decide)) (by rfl) O.m_Lsplit O.F_Lsplit.kp O.b_Lsplit .nil pass0 (pa_cons (pv 4) (pa_cons (pv 11) (pa_cons pe_int pa_nil)))) pa_nil)) (nomark _)) (pss_one (ps_ret pe_bl)) pss_nil)
  (pss_cons (ps_if (PW.pt (pw_or (pt_cmpR op_ne (pe_callN (E := E0) (ok_told_within T O) (hr.mono (by decide)) (by rfl) O.m_told_within O.F_told_within.kp O.kb1_end_told_within passL (pa_cons (pv 9) pa_nil) (pk_cons (pv 3) pk_nil)) (pe_call (E := E0) (ok_told_count T O) (hr.mono (by decide)) (by rfl) O.m_told_count O.F_told_count.kp O.b_told_count .nil passL (pa_cons (pe_op op_sub (pv 9) (pv 3)) pa_nil)) (nomark _)) (pw_or1 (pt_cmpR (r := rNeD K) (op_neD hr.units) (pe_call (E := E0) (ok_told_split T O) (hr.mono (by decide)) (by rfl) O.m_told_split O.F_told_split.kp O.b3_told_split.2 O.b3_told_split.1 passL (pa_cons (pv 9) pa_nil)) (pe_callN (E := E0) (ok_told_split T O) (hr.mono (by decide)) (by rfl) O.m_told_split O.F_told_split.kp O.kb1_ends_words_end_told_split passL (pa_cons (pv 9) pa_nil) (pk_cons pe_non (pk_cons pe_non (pk_cons pe_int pk_nil)))) (nomark _))))) (pss_one (ps_ret pe_bl)) pss_nil)
  (pss_one (ps_if (PW.pt (pw_and (pt_cmpR op_gt (pv 9) pe_int (nomark _)) (pw_and1 (pt_cmpR op_ne (pe_callN (E := E0) (ok_told_within T O) (hr.mono (by decide)) (by rfl) O.m_told_within O.F_told_within.kp O.kb1_ends_told_within passL (pa_cons (pv 9) pa_nil) (pk_cons (pe_lst (pa_cons (pv 9) pa_nil)) pk_nil)) (pe_call (E := E0) (ok_told_count T O) (hr.mono (by decide)) (by rfl) O.m_told_count O.F_told_count.kp O.b_told_count .nil passL (pa_cons (pe_op op_sub (pv 9) pe_int) pa_nil)) (nomark _))))) (pss_one (ps_ret pe_bl)) pss_nil)))))))))))))))))
  (C8.pss_cut (ps_if (PW.pt (pw_and (pt_cmpR op_eq (pe_call (ok_Ldraw T O) (hr.mono (by decide)) (by rfl) O.m_Ldraw O.F_Ldraw.kp O.b_Ldraw .nil pass0 (pa_cons (pv 1) (pa_cons pe_int pa_nil))) pe_int (nomark _)) (pw_and1 (pt_not (pt_val (pe_call (ok_Lsmall T O) (hr.mono (by decide)) (by rfl) O.m_Lsmall O.F_Lsmall.kp O.b_Lsmall .nil pass0 (pa_cons (pv 1) pa_nil))))))) (pss_one (ps_ret pe_bl)) pss_nil)
  (pss_cons (ps_set (i := 12) sc_law.nd rfl (Or.inr rfl) (pe_call (ok_Lodd_ladder T O) (hr.mono (by decide)) (by rfl) O.m_Lodd_ladder O.F_Lodd_ladder.kp O.b_Lodd_ladder .nil pass0 (pa_cons (pv 1) (pa_cons pe_int pa_nil))))
  (pss_cons (ps_asg (pe_tup (pa_cons (pe_call (ok_Lodd_ends T O) (hr.mono (by decide)) (by rfl) O.m_Lodd_ends O.F_Lodd_ends.kp O.b_Lodd_ends .nil pass0 (pa_cons (pv 1) (pa_cons (pv 9) pa_nil))) (pa_cons (pe_call (ok_Lodd_words T O) (hr.mono (by decide)) (by rfl) O.m_Lodd_words O.F_Lodd_words.kp O.b_Lodd_words .nil pass0 (pa_cons (pv 1) pa_nil)) pa_nil))) (pg_tup rfl (pgs_cons (pg_name (i := 14) sc_law.nd rfl (Or.inr rfl)) (pgs_cons (pg_name (i := 15) sc_law.nd rfl (Or.inr rfl)) pgs_nil))))
  (pss_cons (ps_set (i := 13) sc_law.nd rfl (Or.inr rfl) (pe_ix (r := rIxL K) ix_list (pe_lst (pa_cons (pe_un un_neg pe_int) (pa_cons (pe_op op_add (pv 9) pe_int) (pa_cons pe_non (pa_cons pe_bl (pa_cons pe_str (pa_cons (pe_tup (pa_cons pe_int pa_nil)) (pa_cons (pe_op op_pow pe_int pe_int) (pa_cons pe_bl pa_nil))))))))) (pe_call (ok_Ldraw T O) (hr.mono (by decide)) (by rfl) O.m_Ldraw O.F_Ldraw.kp O.b_Ldraw .nil pass0 (pa_cons (pv 1) (pa_cons pe_int pa_nil))) (fun _ _ => rfl)))
  (pss_cons (ps_for PassesOwn.never rfl (show PI _ _ _ (iTup K _) from pi_tup (pe_tup (pa_cons pe_int (pa_cons pe_int pa_nil)))) (pg_name (i := 16) sc_law.nd rfl (Or.inr rfl)) (pss_cons (ps_if (pt_cmpR op_ne (LamX.pe_lamcall (T := TLof Pt) (TT := TTref T) (k := 5) (by rfl) O.m_Lrefused O.F_Lrefused.kp lkR hcR bR sc_Lrefused rfl (Or.inl rfl) (refused_gives T O) TB rfl (List.mem_singleton.mpr rfl) (fun p hp _ => by cases (List.mem_singleton.mp hp); rfl) (hr.mono (by decide)) (LamX.lamS_by (sc := defScope s_law) (by decide +kernel)) rfl (fun _ _ _ _ _ => rfl) (fun A outer s H E f c1 hr => (pe_callS (ok_Lat_door T O) (hr.mono (by decide)) (by rfl) O.m_Lat_door O.F_Lat_door.kp O.b_Lat_door (fun σ => passAt (takes_of rfl rfl rfl rfl) σ) (pa_cons (pv 16) (pa_cons (pv 12) (pa_cons (pv 14) (pa_cons (pv 15) (pa_cons (pv 13) pa_nil)))))))) pe_str (nomark _)) (pss_one (ps_ret pe_bl)) pss_nil)
  (pss_cons (ps_if (pt_cmpR op_ne (LamX.pe_lamcall (T := TLof Pt) (TT := TTref T) (k := 5) (by rfl) O.m_Lrefused O.F_Lrefused.kp lkR hcR bR sc_Lrefused rfl (Or.inl rfl) (refused_gives T O) TB rfl (List.mem_singleton.mpr rfl) (fun p hp _ => by cases (List.mem_singleton.mp hp); rfl) (hr.mono (by decide)) (LamX.lamS_by (sc := defScope s_law) (by decide +kernel)) rfl (fun _ _ _ _ _ => rfl) (fun A outer s H E f c1 hr => (pe_callS (ok_Lat_door T O) (hr.mono (by decide)) (by rfl) O.m_Lat_door O.F_Lat_door.kp O.b_Lat_door (fun σ => passAt (takes_of rfl rfl rfl rfl) σ) (pa_cons (pv 16) (pa_cons (pv 9) (pa_cons (pv 14) (pa_cons (pv 15) (pa_cons (pv 13) pa_nil)))))))) pe_str (nomark _)) (pss_one (ps_ret pe_bl)) pss_nil)
  (pss_cons (ps_if (pt_cmpR op_ne (LamX.pe_lamcall (T := TLof Pt) (TT := TTref T) (k := 5) (by rfl) O.m_Lrefused O.F_Lrefused.kp lkR hcR bR sc_Lrefused rfl (Or.inl rfl) (refused_gives T O) TB rfl (List.mem_singleton.mpr rfl) (fun p hp _ => by cases (List.mem_singleton.mp hp); rfl) (hr.mono (by decide)) (LamX.lamS_by (sc := defScope s_law) (by decide +kernel)) rfl (fun _ _ _ _ _ => rfl) (fun A outer s H E f c1 hr => (pe_callS (ok_Lat_door T O) (hr.mono (by decide)) (by rfl) O.m_Lat_door O.F_Lat_door.kp O.b_Lat_door (fun σ => passAt (takes_of rfl rfl rfl rfl) σ) (pa_cons (pv 16) (pa_cons (pv 9) (pa_cons (pv 10) (pa_cons (pv 15) (pa_cons (pv 13) pa_nil)))))))) pe_str (nomark _)) (pss_one (ps_ret pe_bl)) pss_nil)
  (pss_one (ps_if (pt_cmpR op_ne (LamX.pe_lamcall (T := TLof Pt) (TT := TTref T) (k := 5) (by rfl) O.m_Lrefused O.F_Lrefused.kp lkR hcR bR sc_Lrefused rfl (Or.inl rfl) (refused_gives T O) TB rfl (List.mem_singleton.mpr rfl) (fun p hp _ => by cases (List.mem_singleton.mp hp); rfl) (hr.mono (by decide)) (LamX.lamS_by (sc := defScope s_law) (by decide +kernel)) rfl (fun _ _ _ _ _ => rfl) (fun A outer s H E f c1 hr => (pe_callS (ok_Lat_door T O) (hr.mono (by decide)) (by rfl) O.m_Lat_door O.F_Lat_door.kp O.b_Lat_door (fun σ => passAt (takes_of rfl rfl rfl rfl) σ) (pa_cons (pv 16) (pa_cons (pv 9) (pa_cons (pv 10) (pa_cons (pv 11) (pa_cons (pv 13) pa_nil)))))))) pe_str (nomark _)) (pss_one (ps_ret pe_bl)) pss_nil))))))
  (pss_one (ps_ret (pe_cmpR op_eq (LamX.pe_lamcall (T := TLof Pt) (TT := TTref T) (k := 5) (by rfl) O.m_Lrefused O.F_Lrefused.kp lkR hcR bR sc_Lrefused rfl (Or.inl rfl) (refused_gives T O) TB rfl (List.mem_singleton.mpr rfl) (fun p hp _ => by cases (List.mem_singleton.mp hp); rfl) (hr.mono (by decide)) (LamX.lamS_by (sc := defScope s_law) (by decide +kernel)) rfl (fun _ _ _ _ _ => rfl) (fun A outer s H E f c1 hr => (Jv.pe_callNS (ok_told_within T O) (hr.mono (by decide)) (by rfl) O.m_told_within O.F_told_within.kp O.kb1_ends_words_end_told_within (fun σ => passAt (takes_of rfl rfl rfl rfl) σ) (pa_cons (pv 9) pa_nil) (pk_cons (pv 10) (pk_cons (pv 11) (pk_cons (pv 9) pk_nil)))))) (pe_ifExp (pt_val (pe_ix (r := rIxL K) ix_list (pv 4) (pv 9) (fun _ _ => rfl))) pe_int pe_int) (nomark _))))))))))), ?_⟩
  walk_at "r"
  refine ⟨sc, ns, rfl, hS, few, fun h hl H0 s0 nh hh => ?_⟩
  have hP0 := s0 _ _ hP
  walk_at "r"
  refine ⟨2, rfl, by decide, by decide, ?_⟩
  refine for_range (lo := 0) (n := ((2 : Int)).toNat) (fun i σ H' => ∃ y2 y3 y4 y5 y6 y7 y8 y9 y10 y11, σ = [some (.ref sc), some (.ref h), y2, y3, y4, y5, y6, y7, y8, y9, y10, y11, none, none, none, none, none] ∧ Jv.Hand H' h hl ∧ Jv.Kp h H0 H' ∧
      (0 < i → ∃ (L : Nat) (ve vw : V) (de dw : PyData) (A : List Bool) (a : Addr), y9 = some (.int L) ∧ y10 = some ve ∧ y11 = some vw ∧ y4 = some (.ref a) ∧ Gd K h H' L ve vw de dw A a))
    ⟨_, _, _, _, _, _, _, _, _, _, rfl, hh, Jv.Kp.refl, fun z => by omega⟩ ?_ ?_
  · rintro i σ H2 hi ⟨y2, y3, y4, y5, y6, y7, y8, y9, y10, y11, rfl, hh2, kp2, _⟩
    walk_at "r"
    refine dr hh2 (by decide) (by decide) fun z H3 z0 z1 k3 h3 => ?_
    obtain ⟨L0, rfl⟩ : ∃ n : Nat, z = n := ⟨z.toNat, by omega⟩
    walk_at "r"
    refine ⟨fun σ' H' => ∃ L : Nat, σ' = [some (.ref sc), some (.ref h), some (.int (0 + (i : Nat))), y3, y4, y5, y6, y7, y8, some (.int L), y10, y11, none, none, none, none, none] ∧ L ≤ 30 ∧ Jv.Kp h H0 H' ∧ Jv.Hand H' h hl, ?_, ?_⟩
    · walk_at "r"
      refine dr h3 (by decide) (by decide) fun z H4 z0' z1' k4 h4 => ?_
      walk_at "r"
      refine Jv.r_decI (fun _ => ?_) (fun _ => ?_)
      · walk_at "r"
        refine dr h4 (by decide) (by decide) fun z H5 z0'' z1'' k5 h5 => ?_
        obtain ⟨L, rfl⟩ : ∃ n : Nat, z = n := ⟨z.toNat, by omega⟩
        exact ⟨L, rfl, by omega, ((kp2.trans k3).trans k4).trans k5, h5⟩
      · exact ⟨L0, rfl, by omega, (kp2.trans k3).trans k4, h4⟩
    clear h3 k3 z0 z1 hh2 kp2
    rintro σ H4 ⟨L, rfl, hL, kp4, h4⟩
    walk_at "r"
    refine ⟨h, hl, L, rfl, h4, hL, fun ve de H5 k5 h5 he hE => ?_⟩
    walk_at "r"
    have em : (if (12 : Int) < (L : Nat) then (12 : Int) else (L : Nat)) = ((min L 12 : Nat) : Int) := by split <;> omega
    rw [em]
    refine ⟨h, hl, min L 12, rfl, h5, by omega, fun vw dw H6 k6 h6 hw hW => ?_⟩
    replace he := he.same k6.hide
    have kp6 := (kp4.trans k5).trans k6
    walk_at "r"
    refine ⟨fun σ' H' => ∃ st : Nat, σ' = [some (.ref sc), some (.ref h), some (.int (0 + (i : Nat))), some (.int st), y4, y5, y6, y7, y8, some (.int L), some ve, some vw, none, none, none, none, none] ∧ st ≤ L ∧ Jv.Kp h H6 H' ∧ Jv.Hand H' h hl, ?_, ?_⟩
    · walk_at "r"
      refine dr h6 (by decide) (by decide) fun z H7 z0' z1' k7 h7 => ?_
      walk_at "r"
      refine Jv.r_decI (fun _ => ?_) (fun _ => ?_)
      · walk_at "r"
        refine dr h7 (by omega) (by omega) fun z H8 z0'' z1'' k8 h8 => ?_
        obtain ⟨st, rfl⟩ : ∃ n : Nat, z = n := ⟨z.toNat, by omega⟩
        exact ⟨st, rfl, by omega, k7.trans k8, h8⟩
      · walk_at "r"
        exact ⟨0, rfl, by omega, k7, h7⟩
    rintro σ H7 ⟨st, rfl, hst, k7, h7⟩
    replace he := he.same k7.hide
    have kp7 := kp6.trans k7
    clear kp6 k7 h6 k6 k5 h5 kp4 h4
    have heV := he.same Jv.hide_le
    walk_at "r"
    refine ⟨L, ve, de, rfl, heV, hE, hL, fun A a H8 hA s8 na ha => ?_⟩
    obtain ⟨m, hm⟩ := hW.of (L := L)
    have hm1 := hm.pos
    have lA := hA.len
    have nah : a ≠ h := (h7.ne2 na).1
    walk_at "r"
    refine ⟨a, A, vw, dw, L, m, st, rfl, ha, lA, hL, hst, hw _, hm, fun t H9 s9 ht => ?_⟩
    have he9 := heV.same (s8.trans s9)
    obtain ⟨lay, sho⟩ := hE.lays hL
    walk_at "r"
    refine ⟨ve, de, rfl, .dv he9, lay, sho, ?_⟩
    walk_at "r"
    have ask := fun {Hx : Hp} {E : XK} {good : List Int → Prop} (s' : Same H7 Hx) (g : good (due A (m - 1) st)) => (Asked.good (T := T) (E := E) hL (heV.same s') hA (hw _) hm hst g : Asked K T Hx (.int L) ve vw (.int st) E good)
    refine ⟨rfl, rfl, .int L, ve, vw, .int st, rfl, ask (s8.trans s9) fun t2 H10 s10 ht2 => ?_⟩
    have s710 := (s8.trans s9).trans s10
    have ht10 := s10 _ _ ht
    have few1 : (due A (m - 1) st).length ≤ 31 := by rw [due_len]; omega
    walk_at "r"
    rw [List.length_map]
    refine ⟨t2, _, rfl, ht2, by omega, fun H11 s11 => ?_⟩
    have ht11 := s11 _ _ ht10
    walk_at "r"
    refine Jv.r_tupOfL (Jv.sqL_at ht11) fun t3 ht3 => ?_
    have s12 := Jv.same_new (u := .tup ((due A (m - 1) st).map V.int)) ht3
    refine Jv.ne_self (d := .tuple ((due A (m - 1) st).map .int)) (.tup (Jv.Same.sqT (s11.trans s12) ht2) (Jv.dv_ints _)) (.tup (Jv.sqT_at upd_same) (Jv.dv_ints _)) (shaped_ints _).2 ?_
    have s712 := (s710.trans s11).trans s12
    have ht12 := s12 _ _ ht11
    generalize L2.upd _ _ _ = H12 at s12 s712 ht12 ⊢
    walk_at "r"
    refine ⟨rfl, rfl, .int L, ve, vw, .int st, rfl, ask s712 fun H13 s13 => ?_⟩
    have s713 := s712.trans s13
    have ht13 := s13 _ _ ht12
    walk_at "r"
    refine ⟨_, rfl, ?_⟩
    walk_at "r"
    refine ⟨t, _, rfl, Jv.sqL_at ht13, ?_⟩
    walk_at "r"
    rw [decide_eq_true (rfl : V.int (due A (m - 1) st).sum = V.int (due A (m - 1) st).sum)]
    walk_at "r"
    refine ⟨ve, de, rfl, .dv (heV.same s713), lay, sho, ?_⟩
    walk_at "r"
    rw [decide_eq_true (rfl : V.str (Jv.shownW de) = V.str (Jv.shownW de))]
    walk_at "r"
    refine ⟨rfl, rfl, .int L, ve, vw, .int 0, rfl, Asked.good (st := 0) hL (heV.same s713) hA (hw _) hm (by omega) fun H14 s14 => ?_⟩
    have s714 := s713.trans s14
    have ha8 := (s9.trans (s10.trans (s11.trans (s12.trans (s13.trans s14))))) _ _ ha
    walk_at "r"
    refine ⟨a, A, vw, dw, L, m, 0, rfl, ha8, lA, hL, by omega, hw _, hm, fun t4 H15 s15 ht4 => ?_⟩
    have s715 := s714.trans s15
    walk_at "r"
    refine ⟨t4, _, rfl, Jv.sqL_at ht4, ?_⟩
    walk_at "r"
    rw [decide_eq_true (rfl : V.int (due A (m - 1) 0).sum = V.int (due A (m - 1) 0).sum)]
    walk_at "r"
    have all := fun {Hx : Hp} {E : XK} {good : List Int → Prop} {sx : Nat} (hs : sx ≤ L) (g : good (due (List.replicate (L + 1) true) (L + 1 - 1) sx)) => (Asked.good (T := T) (E := E) (de := .none) (dw := .none) hL .non (.inl ⟨rfl, rfl⟩) .non (.inl ⟨rfl, rfl⟩) hs g : Asked K T Hx (.int L) .non .non (.int sx) E good)
    refine ⟨rfl, rfl, .int L, .non, .non, .int st, rfl, all hst fun H16 s16 => ?_⟩
    have s716 := s715.trans s16
    rw [Nat.add_sub_cancel, due_all hst]
    walk_at "r"
    refine ⟨L - st, by rw [show ((L : Nat) : Int) - (st : Nat) = ((L - st : Nat) : Int) by omega]; rfl, by omega, fun H17 s17 => ?_⟩
    have s717 := s716.trans s17
    walk_at "r"
    rw [decide_eq_true (rfl : V.int (tc (L - st)) = V.int (tc (L - st)))]
    walk_at "r"
    refine ⟨.int L, .non, .non, .int 0, rfl, all (sx := 0) (by omega) fun t5 H18 s18 ht5 => ?_⟩
    have s718 := s717.trans s18
    walk_at "r"
    refine ⟨rfl, rfl, .int L, .non, .non, .int 0, rfl, all (sx := 0) (by omega) fun t6 H19 s19 ht6 => ?_⟩
    have s719 := s718.trans s19
    refine Jv.ne_self (d := .tuple ((due (List.replicate (L + 1) true) (L + 1 - 1) 0).map .int)) (.tup (Jv.Same.sqT s19 ht5) (Jv.dv_ints _)) (.tup ht6 (Jv.dv_ints _)) (shaped_ints _).2 ?_
    have lastly : ∀ (Hz : Hp), Same H7 Hz → Hz a = some (.lst (blV A)) → Jv.Hand Hz h hl ∧ Jv.Kp h H0 Hz ∧ Gd K h Hz L ve vw de dw A a := fun Hz sz haz =>
      ⟨h7.same sz, kp7.trans (Jv.Kp.same sz), ⟨hL, he.same (Jv.hide_same sz), hE, hA, hw, hW, haz, nah⟩⟩
    have ha19 := (s15.trans (s16.trans (s17.trans (s18.trans s19)))) _ _ ha8
    walk_at "r"
    refine Jv.r_dec (fun hpos => ?_) (fun hpos => ?_)
    · walk_at "r"
      intro p hp
      have sp := Jv.same_new (u := .lst [.int L]) hp
      have ep : L2.upd H19 p (.lst [.int L]) p = some (.lst [.int L]) := upd_same
      have ha20 := sp _ _ ha19
      have s720 := s719.trans sp
      generalize L2.upd H19 p (.lst [.int L]) = H20 at sp ep ha20 s720 ⊢
      walk_at "r"
      refine ⟨rfl, rfl, .int L, .ref p, .non, .int 0, rfl, Asked.good (st := 0) (de := .list [.int L]) (dw := .none) (m := L + 1) hL (.lst ep (.cons (.int _) .nil)) (.inr ⟨[(L : Int)], rfl, fun z hz => (by rw [List.mem_singleton.mp hz]; omega), by simp, rfl⟩) .non (.inl ⟨rfl, rfl⟩) (by omega) fun H21 s21 => ?_⟩
      rw [top_range, Nat.add_sub_cancel, due_top (by omega)]
      walk_at "r"
      refine ⟨L - 1, by rw [show ((L : Nat) : Int) - 1 = ((L - 1 : Nat) : Int) by omega]; rfl, by omega, fun H22 s22 => ?_⟩
      walk_at "r"
      rw [decide_eq_true (rfl : V.int (tc (L - 1)) = V.int (tc (L - 1)))]
      walk_at "r"
      obtain ⟨f1, f2, f3⟩ := lastly H22 ((s720.trans s21).trans s22) (s22 _ _ (s21 _ _ ha20))
      exact ⟨_, _, _, _, _, _, _, _, _, _, rfl, f1, f2, fun _ => ⟨L, ve, vw, de, dw, A, a, rfl, rfl, rfl, rfl, f3⟩⟩
    · walk_at "r"
      obtain ⟨f1, f2, f3⟩ := lastly H19 s719 ha19
      exact ⟨_, _, _, _, _, _, _, _, _, _, rfl, f1, f2, fun _ => ⟨L, ve, vw, de, dw, A, a, rfl, rfl, rfl, rfl, f3⟩⟩
  · rintro σ H2 ⟨y2, y3, y4, y5, y6, y7, y8, y9, y10, y11, rfl, hh2, kp2, gd2⟩
    obtain ⟨L, ve, vw, de, dw, A, a, rfl, rfl, rfl, rfl, g⟩ := gd2 (by decide)
    have nPh : Pt ≠ h := fun e => by rw [e, nh] at hP; cases hP
    refine ⟨fun σ' H' => σ' = [some (.ref sc), some (.ref h), y2, y3, some (.ref a), y5, y6, y7, y8, some (.int L), some ve, some vw, none, none, none, none, none] ∧ Jv.Kp h H2 H' ∧ Jv.Hand H' h hl, ?_, ?_⟩
    · walk_at "r"
      refine dr hh2 (by decide) (by decide) fun z H3 z0 z1 k3 h3 => ?_
      walk_at "r"
      refine Jv.r_decI (fun _ => ?_) (fun _ => ?_)
      · walk_at "r"
        refine ⟨h, hl, rfl, h3, fun H4 k4 h4 => ?_⟩
        walk_at "r"
        exact ⟨rfl, k3.trans k4, h4⟩
      · walk_at "r"
        exact ⟨rfl, k3, h3⟩
    rintro σ H3 ⟨rfl, k3, h3⟩
    replace g := g.kp k3
    have kp3 := kp2.trans k3
    clear k3 kp2 hh2
    walk_at "r"
    refine ⟨h, hl, rfl, h3, fun vo oD H4 k4 h4 hvo bo => ?_⟩
    walk_at "r"
    refine ⟨h, hl, L, rfl, h4, fun oe eD H5 k5 h5 hoe be => ?_⟩
    replace hvo := hvo.same k5.hide
    walk_at "r"
    refine ⟨h, hl, rfl, h5, fun ow wD H6 k6 h6 how bw => ?_⟩
    replace hvo := hvo.same k6.hide
    replace hoe := hoe.same k6.hide
    walk_at "r"
    intro p hp
    refine Jv.r_gtup (Jv.sqT_at upd_same) rfl ?_
    generalize e1 : L2.upd _ _ _ = G1
    obtain ⟨s1, f1⟩ := new_of hp e1
    clear e1
    have h7 := h6.same s1
    replace hvo := hvo.same (Jv.hide_same s1)
    replace hoe := hoe.same (Jv.hide_same s1)
    replace how := how.same (Jv.hide_same s1)
    replace g := (((g.kp k4).kp k5).kp k6).kp (Jv.Kp.same s1)
    have kp7 := (((kp3.trans k4).trans k5).trans k6).trans (Jv.Kp.same s1)
    clear s1 f1 hp k4 k5 k6 h3 h4 h5 h6
    walk_at "r"
    intro t1 ht1
    generalize e1 : L2.upd _ _ _ = G2
    obtain ⟨s1, f1⟩ := new_of ht1 e1
    clear e1
    obtain ⟨n1, _⟩ := h7.ne2 ht1
    walk_at "r"
    intro t2 ht2
    generalize e2 : L2.upd _ _ _ = G3
    obtain ⟨s2, f2⟩ := new_of ht2 e2
    clear e2
    obtain ⟨n2, _⟩ := (h7.same s1).ne2 ht2
    replace f1 := s2 _ _ f1
    have s12 := s1.trans s2
    walk_at "r"
    refine dr (m := 8) (h7.same s12) (by decide) (by decide) fun z H8 z0 z1 k8 h8 => ?_
    replace f1 := k8 _ _ n1 f1
    replace f2 := k8 _ _ n2 f2
    have k78 := (Jv.Kp.same (p := h) s12).trans k8
    walk_at "r"
    refine pickV f2 z0 z1 fun vd hv => ?_
    obtain ⟨dE, hvd, bvd⟩ : ∃ dE, Jv.Dv K H8 vd dE ∧ Jv.wholeD dE (.int 0) (.int L) = false := by
      simp only [List.mem_cons, List.not_mem_nil, or_false] at hv
      rcases hv with rfl | rfl | rfl | rfl | rfl | rfl | rfl | rfl
      · exact ⟨_, .int _, rfl⟩
      · exact ⟨_, .int _, whole_next⟩
      · exact ⟨_, .non, rfl⟩
      · exact ⟨_, .bl _, rfl⟩
      · exact ⟨_, .str _, rfl⟩
      · exact ⟨_, .tup (Jv.sqT_at f1) (.cons (.int _) .nil), rfl⟩
      · exact ⟨_, .int _, whole_big g.hL⟩
      · exact ⟨_, .bl _, rfl⟩
    have tb8 : LamX.Tabs (TLof Pt) H8 := fun p hp => by
      cases List.mem_singleton.mp hp
      exact LamX.TabS.nil ((kp7.trans k78) _ _ nPh hP0)
    have g8 := g.kp k78
    have od : Od K H8 L vo oe ow vd ve vw oD eD wD dE de dw A a :=
      ⟨(hvo.same k78.hide).same Jv.hide_le, bo, (hoe.same k78.hide).same Jv.hide_le, be, (how.same k78.hide).same Jv.hide_le, bw, hvd, bvd, g8.he.same Jv.hide_le, g8.hw _, g8.ha⟩
    clear f1 f2 hv z0 z1 ht1 ht2 s1 s2 s12 h7 h8 n1 n2 hvd
    obtain ⟨m, hm⟩ := g.hW.of (L := L)
    have lA := g.hA.len
    walk_at "r"
    intro p3 hp3
    generalize e3 : L2.upd _ _ _ = G4
    obtain ⟨s3, f3⟩ := new_of hp3 e3
    clear e3
    have sqp : SqT K G4 p3 [.int 0, .int 1] := Jv.sqT_at f3
    have odG := od.ext (LamX.ExtN.of s3)
    have tbG := LamX.Tabs.ext tb8 s3
    refine ⟨p3, rfl, ⟨_, sqp⟩, ?_⟩
    refine for_tup (xs := [V.int 0, V.int 1]) (fun i σ H' => ∃ y16, σ = [some (.ref sc), some (.ref h), y2, y3, some (.ref a), y5, y6, y7, y8, some (.int L), some ve, some vw, some vo, some vd, some oe, some ow, y16] ∧ LamX.ExtN G4 H' ∧ LamX.Tabs (TLof Pt) H' ∧ Od K H' L vo oe ow vd ve vw oD eD wD dE de dw A a)
      ⟨_, rfl, LamX.ExtN.refl _, tbG, odG⟩ (fun i σ H' _ ⟨_, _, x, _⟩ => Jv.sqT_ext x sqp) ?_ ?_
    · rintro i v σ H0' hv ⟨y16, rfl, x0, tb0, od0⟩
      obtain ⟨way, rfl⟩ : ∃ way : Int, v = .int way := by
        have := List.mem_of_getElem? hv
        simp only [List.mem_cons, List.not_mem_nil, or_false] at this
        rcases this with rfl | rfl
        · exact ⟨_, rfl⟩
        · exact ⟨_, rfl⟩
      walk_at "r"
      refine ⟨tb0, fun H1a e1a tb1a => ?_⟩
      have od1a := od0.ext e1a
      intro R hR
      walk_at "r"
      refine ⟨way, vo, oe, ow, vd, rfl, ⟨oD, eD, wD, dE, od1a.vo, od1a.oe, od1a.ow, od1a.vd, .inl ⟨od1a.bo, fun H1b s1b => ?_⟩⟩⟩
      refine ⟨rfl, .inl ⟨rfl, ?_⟩⟩
      walk_at "r"
      have od1b := od1a.ext (LamX.ExtN.of s1b)
      have tb1b := LamX.Tabs.ext tb1a s1b
      have x1b := x0.trans (e1a.trans (LamX.ExtN.of s1b))
      refine ⟨tb1b, fun H2a e2a tb2a => ?_⟩
      have od2a := od1b.ext e2a
      intro R hR
      walk_at "r"
      refine ⟨way, .int L, oe, ow, vd, rfl, ⟨.int L, eD, wD, dE, .int _, od2a.oe, od2a.ow, od2a.vd, .inr ⟨L, rfl, g.hL, .inl ⟨od2a.be, fun H2b s2b => ?_⟩⟩⟩⟩
      refine ⟨rfl, .inr (.inl ⟨rfl, ?_⟩)⟩
      walk_at "r"
      have od2b := od2a.ext (LamX.ExtN.of s2b)
      have tb2b := LamX.Tabs.ext tb2a s2b
      have x2b := x1b.trans (e2a.trans (LamX.ExtN.of s2b))
      refine ⟨tb2b, fun H3a e3a tb3a => ?_⟩
      have od3a := od2b.ext e3a
      intro R hR
      walk_at "r"
      refine ⟨way, .int L, ve, ow, vd, rfl, ⟨.int L, de, wD, dE, .int _, .dv od3a.ve, od3a.ow, od3a.vd, .inr ⟨L, rfl, g.hL, .inr ⟨A, g.hA, .inl ⟨od3a.bw, fun H3b s3b => ?_⟩⟩⟩⟩⟩
      refine ⟨rfl, .inr (.inr (.inl ⟨rfl, ?_⟩))⟩
      walk_at "r"
      have od3b := od3a.ext (LamX.ExtN.of s3b)
      have tb3b := LamX.Tabs.ext tb3a s3b
      have x3b := x2b.trans (e3a.trans (LamX.ExtN.of s3b))
      refine ⟨tb3b, fun H4a e4a tb4a => ?_⟩
      have od4a := od3b.ext e4a
      intro R hR
      walk_at "r"
      refine ⟨way, .int L, ve, vw, vd, rfl, ⟨.int L, de, dw, dE, .int _, .dv od4a.ve, od4a.vw, od4a.vd, .inr ⟨L, rfl, g.hL, .inr ⟨A, g.hA, .inr ⟨m, hm, .inl ⟨od4a.bd, fun H4b s4b => ?_⟩⟩⟩⟩⟩⟩
      refine ⟨rfl, .inr (.inr (.inr ⟨rfl, ?_⟩))⟩
      walk_at "r"
      have od4b := od4a.ext (LamX.ExtN.of s4b)
      have tb4b := LamX.Tabs.ext tb4a s4b
      have x4b := x3b.trans (e4a.trans (LamX.ExtN.of s4b))
      exact ⟨_, rfl, x4b, tb4b, od4b⟩
    · rintro σ H0' ⟨y16, rfl, x0, tb0, od0⟩
      walk_at "r"
      refine ⟨tb0, fun H1a e1a tb1a => ?_⟩
      have od1a := od0.ext e1a
      intro R hR
      walk_at "r"
      refine Jv.r_callNS ?_
      walk_at "r"
      refine ⟨rfl, rfl, .int L, ve, vw, .int L, rfl, ⟨.int L, de, dw, .int L, .int _, .dv od1a.ve, od1a.vw, .int _, .inr ⟨L, rfl, g.hL, .inr ⟨A, g.hA, .inr ⟨m, hm, .inr ⟨L, rfl, Nat.le_refl _, fun H2a s2a => ?_⟩⟩⟩⟩⟩⟩
      rw [due_end (by omega)]
      refine hR _ _ ?_
      walk_at "r"
      refine Jv.r_ixL (Jv.sqL_at (s2a _ _ od1a.ha)) (Jv.at_i (by omega) (by rw [Int.toNat_natCast]; exact blV_get (by omega))) ?_
      walk_at "r"
      refine r_own ?_
      walk_at "r"
      rw [decide_eq_true (rfl : V.int (own (A.getD L false)) = V.int (own (A.getD L false)))]
      exact fin _
end
end K35

namespace K35
open PySem PySem.Spec PyProof.Rows L2
theorem all_mk {l : PySem.W.OpenLaw} {w : World} {fa : Addr} {K : PySem.W.Frag} {h : Heap} {mg : Str → Option Value} (X : K.In h) (G : h.Ns mainGlobals mg) (hfa : mg "law" = some (.ref fa)) (own : LamX.OwnTab K fa h)
  {cc_law P_law : Addr} {cdd_law : Option Addr} {cvs_law : Array Value} {csl_law : Array (Option Value)} {cf_law : Str} {cft_law cgt_law ctt_law : Tok} {cg_law cx_law : Int} {ci_law : Bool}
  {C_CallError : Addr}
  {C_BadLadder : Addr}
  {C_BadEnds : Addr}
  {C_BadEnd : Addr}
  {C_BadWords : Addr}
  {f_is_whole : Addr} {od_is_whole an_is_whole : Option Addr} {sl_is_whole : Array (Option Value)} {oc_is_whole kV_is_whole dc_is_whole pm_is_whole cd_is_whole ct_is_whole : Value}
  {q_is_whole : Addr} {qc_is_whole : Value} {qd_is_whole : Option Addr} {qs_is_whole : Array (Option Value)} {qn_is_whole : Nat}
  {f_is_sequence : Addr} {od_is_sequence an_is_sequence : Option Addr} {sl_is_sequence : Array (Option Value)} {oc_is_sequence kV_is_sequence dc_is_sequence pm_is_sequence cd_is_sequence ct_is_sequence : Value}
  {f_check_ladder : Addr} {od_check_ladder an_check_ladder : Option Addr} {sl_check_ladder : Array (Option Value)} {oc_check_ladder kV_check_ladder dc_check_ladder pm_check_ladder cd_check_ladder ct_check_ladder : Value}
  {q_check_ladder : Addr} {qc_check_ladder : Value} {qd_check_ladder : Option Addr} {qs_check_ladder : Array (Option Value)} {qn_check_ladder : Nat}
  {qt0_check_ladder : Tok}
  {f_allowed_ends : Addr} {od_allowed_ends an_allowed_ends : Option Addr} {sl_allowed_ends : Array (Option Value)} {oc_allowed_ends kV_allowed_ends dc_allowed_ends pm_allowed_ends cd_allowed_ends ct_allowed_ends : Value}
  {f_words_left : Addr} {od_words_left an_words_left : Option Addr} {sl_words_left : Array (Option Value)} {oc_words_left kV_words_left dc_words_left pm_words_left cd_words_left ct_words_left : Value}
  {f_counts_by_words : Addr} {od_counts_by_words an_counts_by_words : Option Addr} {sl_counts_by_words : Array (Option Value)} {oc_counts_by_words kV_counts_by_words dc_counts_by_words pm_counts_by_words cd_counts_by_words ct_counts_by_words : Value}
  {f_split_at : Addr} {od_split_at an_split_at : Option Addr} {sl_split_at : Array (Option Value)} {oc_split_at kV_split_at dc_split_at pm_split_at cd_split_at ct_split_at : Value}
  {f_told_split : Addr} {od_told_split an_told_split : Option Addr} {sl_told_split : Array (Option Value)} {oc_told_split dc_told_split pm_told_split cd_told_split ct_told_split : Value}
  {qk_told_split : Addr}
  {qkt2_told_split : Tok}
  {f_told_within : Addr} {od_told_within an_told_within : Option Addr} {sl_told_within : Array (Option Value)} {oc_told_within dc_told_within pm_told_within cd_told_within ct_told_within : Value}
  {qk_told_within : Addr}
  {qkt2_told_within : Tok}
  {f_told_count : Addr} {od_told_count an_told_count : Option Addr} {sl_told_count : Array (Option Value)} {oc_told_count kV_told_count dc_told_count pm_told_count cd_told_count ct_told_count : Value}
  {f_Lmix : Addr} {od_Lmix an_Lmix : Option Addr} {sl_Lmix : Array (Option Value)} {oc_Lmix kV_Lmix dc_Lmix pm_Lmix cd_Lmix ct_Lmix : Value}
  {f_Lhand : Addr} {od_Lhand an_Lhand : Option Addr} {sl_Lhand : Array (Option Value)} {oc_Lhand kV_Lhand dc_Lhand pm_Lhand cd_Lhand ct_Lhand : Value}
  {f_Ldraw : Addr} {od_Ldraw an_Ldraw : Option Addr} {sl_Ldraw : Array (Option Value)} {oc_Ldraw kV_Ldraw dc_Ldraw pm_Ldraw cd_Ldraw ct_Ldraw : Value}
  {f_Lis_number : Addr} {od_Lis_number an_Lis_number : Option Addr} {sl_Lis_number : Array (Option Value)} {oc_Lis_number kV_Lis_number dc_Lis_number pm_Lis_number cd_Lis_number ct_Lis_number : Value}
  {f_Lnumbers : Addr} {od_Lnumbers an_Lnumbers : Option Addr} {sl_Lnumbers : Array (Option Value)} {oc_Lnumbers kV_Lnumbers dc_Lnumbers pm_Lnumbers cd_Lnumbers ct_Lnumbers : Value}
  {f_Lsome_ends : Addr} {od_Lsome_ends an_Lsome_ends : Option Addr} {sl_Lsome_ends : Array (Option Value)} {oc_Lsome_ends kV_Lsome_ends dc_Lsome_ends pm_Lsome_ends cd_Lsome_ends ct_Lsome_ends : Value}
  {f_Lsome_words : Addr} {od_Lsome_words an_Lsome_words : Option Addr} {sl_Lsome_words : Array (Option Value)} {oc_Lsome_words kV_Lsome_words dc_Lsome_words pm_Lsome_words cd_Lsome_words ct_Lsome_words : Value}
  {f_Lallowed : Addr} {od_Lallowed an_Lallowed : Option Addr} {sl_Lallowed : Array (Option Value)} {oc_Lallowed kV_Lallowed dc_Lallowed pm_Lallowed cd_Lallowed ct_Lallowed : Value}
  {f_Llevel : Addr} {od_Llevel an_Llevel : Option Addr} {sl_Llevel : Array (Option Value)} {oc_Llevel kV_Llevel dc_Llevel pm_Llevel cd_Llevel ct_Llevel : Value}
  {f_Lfree : Addr} {od_Lfree an_Lfree : Option Addr} {sl_Lfree : Array (Option Value)} {oc_Lfree kV_Lfree dc_Lfree pm_Lfree cd_Lfree ct_Lfree : Value}
  {f_Lcounts : Addr} {od_Lcounts an_Lcounts : Option Addr} {sl_Lcounts : Array (Option Value)} {oc_Lcounts kV_Lcounts dc_Lcounts pm_Lcounts cd_Lcounts ct_Lcounts : Value}
  {f_Lsplit : Addr} {od_Lsplit an_Lsplit : Option Addr} {sl_Lsplit : Array (Option Value)} {oc_Lsplit kV_Lsplit dc_Lsplit pm_Lsplit cd_Lsplit ct_Lsplit : Value}
  {f_Lodd_ladder : Addr} {od_Lodd_ladder an_Lodd_ladder : Option Addr} {sl_Lodd_ladder : Array (Option Value)} {oc_Lodd_ladder kV_Lodd_ladder dc_Lodd_ladder pm_Lodd_ladder cd_Lodd_ladder ct_Lodd_ladder : Value}
  {f_Lodd_ends : Addr} {od_Lodd_ends an_Lodd_ends : Option Addr} {sl_Lodd_ends : Array (Option Value)} {oc_Lodd_ends kV_Lodd_ends dc_Lodd_ends pm_Lodd_ends cd_Lodd_ends ct_Lodd_ends : Value}
  {f_Lodd_words : Addr} {od_Lodd_words an_Lodd_words : Option Addr} {sl_Lodd_words : Array (Option Value)} {oc_Lodd_words kV_Lodd_words dc_Lodd_words pm_Lodd_words cd_Lodd_words ct_Lodd_words : Value}
  {f_Lrefused : Addr} {od_Lrefused an_Lrefused : Option Addr} {sl_Lrefused : Array (Option Value)} {oc_Lrefused kV_Lrefused dc_Lrefused pm_Lrefused cd_Lrefused ct_Lrefused : Value}
  {f_Lat_door : Addr} {od_Lat_door an_Lat_door : Option Addr} {sl_Lat_door : Array (Option Value)} {oc_Lat_door kV_Lat_door dc_Lat_door pm_Lat_door cd_Lat_door ct_Lat_door : Value}
  {f_Lis_told : Addr} {od_Lis_told an_Lis_told : Option Addr} {sl_Lis_told : Array (Option Value)} {oc_Lis_told kV_Lis_told dc_Lis_told pm_Lis_told cd_Lis_told ct_Lis_told : Value}
  {f_Lis_asked : Addr} {od_Lis_asked an_Lis_asked : Option Addr} {sl_Lis_asked : Array (Option Value)} {oc_Lis_asked kV_Lis_asked dc_Lis_asked pm_Lis_asked cd_Lis_asked ct_Lis_asked : Value}
  {f_Lsmall : Addr} {od_Lsmall an_Lsmall : Option Addr} {sl_Lsmall : Array (Option Value)} {oc_Lsmall kV_Lsmall dc_Lsmall pm_Lsmall cd_Lsmall ct_Lsmall : Value}
  {f_law : Addr} {od_law an_law : Option Addr} {sl_law : Array (Option Value)} {oc_law kV_law dc_law pm_law ct_law : Value}
  {t_LADDER_MOST : Tok}
  {t_TOLD_LADDER_MOST : Tok}
  {t_COUNT_LADDER_MOST : Tok}
  (a_CallError : PySem.W.nsIn K mainGlobals "CallError" = some (some (.ref C_CallError)))
  (a_BadLadder : PySem.W.nsIn K mainGlobals "BadLadder" = some (some (.ref C_BadLadder)))
  (a_BadEnds : PySem.W.nsIn K mainGlobals "BadEnds" = some (some (.ref C_BadEnds)))
  (a_BadEnd : PySem.W.nsIn K mainGlobals "BadEnd" = some (some (.ref C_BadEnd)))
  (a_BadWords : PySem.W.nsIn K mainGlobals "BadWords" = some (some (.ref C_BadWords)))
  (a_is_whole : PySem.W.nsIn K mainGlobals "is_whole" = some (some (.ref f_is_whole)))
  (l_is_whole : K.lookup f_is_whole = some ⟨oc_is_whole, od_is_whole, .func (PySem.W.fnOf "is_whole" "is_whole" (defArgs s_is_whole) (defBody s_is_whole) (defScope s_is_whole) (.ref q_is_whole) kV_is_whole dc_is_whole pm_is_whole an_is_whole cd_is_whole ct_is_whole), sl_is_whole⟩)
  (c_is_whole : PySem.W.codeIn K cd_is_whole "is_whole" = true)
  (k_is_whole : PySem.W.keepIn K (.ref f_is_whole) = true)
  (t_is_whole : K.lookup q_is_whole = some ⟨qc_is_whole, qd_is_whole, .seq #[Value.none, Value.none] qn_is_whole, qs_is_whole⟩)
  (a_is_sequence : PySem.W.nsIn K mainGlobals "is_sequence" = some (some (.ref f_is_sequence)))
  (l_is_sequence : K.lookup f_is_sequence = some ⟨oc_is_sequence, od_is_sequence, .func (PySem.W.fnOf "is_sequence" "is_sequence" (defArgs s_is_sequence) (defBody s_is_sequence) (defScope s_is_sequence) .none kV_is_sequence dc_is_sequence pm_is_sequence an_is_sequence cd_is_sequence ct_is_sequence), sl_is_sequence⟩)
  (c_is_sequence : PySem.W.codeIn K cd_is_sequence "is_sequence" = true)
  (k_is_sequence : PySem.W.keepIn K (.ref f_is_sequence) = true)
  (a_check_ladder : PySem.W.nsIn K mainGlobals "check_ladder" = some (some (.ref f_check_ladder)))
  (l_check_ladder : K.lookup f_check_ladder = some ⟨oc_check_ladder, od_check_ladder, .func (PySem.W.fnOf "check_ladder" "check_ladder" (defArgs s_check_ladder) (defBody s_check_ladder) (defScope s_check_ladder) (.ref q_check_ladder) kV_check_ladder dc_check_ladder pm_check_ladder an_check_ladder cd_check_ladder ct_check_ladder), sl_check_ladder⟩)
  (c_check_ladder : PySem.W.codeIn K cd_check_ladder "check_ladder" = true)
  (k_check_ladder : PySem.W.keepIn K (.ref f_check_ladder) = true)
  (t_check_ladder : K.lookup q_check_ladder = some ⟨qc_check_ladder, qd_check_ladder, .seq #[Value.int (6) qt0_check_ladder] qn_check_ladder, qs_check_ladder⟩)
  (a_allowed_ends : PySem.W.nsIn K mainGlobals "allowed_ends" = some (some (.ref f_allowed_ends)))
  (l_allowed_ends : K.lookup f_allowed_ends = some ⟨oc_allowed_ends, od_allowed_ends, .func (PySem.W.fnOf "allowed_ends" "allowed_ends" (defArgs s_allowed_ends) (defBody s_allowed_ends) (defScope s_allowed_ends) .none kV_allowed_ends dc_allowed_ends pm_allowed_ends an_allowed_ends cd_allowed_ends ct_allowed_ends), sl_allowed_ends⟩)
  (c_allowed_ends : PySem.W.codeIn K cd_allowed_ends "allowed_ends" = true)
  (k_allowed_ends : PySem.W.keepIn K (.ref f_allowed_ends) = true)
  (a_words_left : PySem.W.nsIn K mainGlobals "words_left" = some (some (.ref f_words_left)))
  (l_words_left : K.lookup f_words_left = some ⟨oc_words_left, od_words_left, .func (PySem.W.fnOf "words_left" "words_left" (defArgs s_words_left) (defBody s_words_left) (defScope s_words_left) .none kV_words_left dc_words_left pm_words_left an_words_left cd_words_left ct_words_left), sl_words_left⟩)
  (c_words_left : PySem.W.codeIn K cd_words_left "words_left" = true)
  (k_words_left : PySem.W.keepIn K (.ref f_words_left) = true)
  (a_counts_by_words : PySem.W.nsIn K mainGlobals "counts_by_words" = some (some (.ref f_counts_by_words)))
  (l_counts_by_words : K.lookup f_counts_by_words = some ⟨oc_counts_by_words, od_counts_by_words, .func (PySem.W.fnOf "counts_by_words" "counts_by_words" (defArgs s_counts_by_words) (defBody s_counts_by_words) (defScope s_counts_by_words) .none kV_counts_by_words dc_counts_by_words pm_counts_by_words an_counts_by_words cd_counts_by_words ct_counts_by_words), sl_counts_by_words⟩)
  (c_counts_by_words : PySem.W.codeIn K cd_counts_by_words "counts_by_words" = true)
  (k_counts_by_words : PySem.W.keepIn K (.ref f_counts_by_words) = true)
  (a_split_at : PySem.W.nsIn K mainGlobals "split_at" = some (some (.ref f_split_at)))
  (l_split_at : K.lookup f_split_at = some ⟨oc_split_at, od_split_at, .func (PySem.W.fnOf "split_at" "split_at" (defArgs s_split_at) (defBody s_split_at) (defScope s_split_at) .none kV_split_at dc_split_at pm_split_at an_split_at cd_split_at ct_split_at), sl_split_at⟩)
  (c_split_at : PySem.W.codeIn K cd_split_at "split_at" = true)
  (k_split_at : PySem.W.keepIn K (.ref f_split_at) = true)
  (a_told_split : PySem.W.nsIn K mainGlobals "told_split" = some (some (.ref f_told_split)))
  (l_told_split : K.lookup f_told_split = some ⟨oc_told_split, od_told_split, .func (PySem.W.fnOf "told_split" "told_split" (defArgs s_told_split) (defBody s_told_split) (defScope s_told_split) .none (.ref qk_told_split) dc_told_split pm_told_split an_told_split cd_told_split ct_told_split), sl_told_split⟩)
  (c_told_split : PySem.W.codeIn K cd_told_split "told_split" = true)
  (k_told_split : PySem.W.keepIn K (.ref f_told_split) = true)
  (kw0_told_split : PySem.W.nsIn K qk_told_split "ends" = some (some (.none)))
  (kw1_told_split : PySem.W.nsIn K qk_told_split "words" = some (some (.none)))
  (kw2_told_split : PySem.W.nsIn K qk_told_split "end" = some (some (.int (0) qkt2_told_split)))
  (a_told_within : PySem.W.nsIn K mainGlobals "told_within" = some (some (.ref f_told_within)))
  (l_told_within : K.lookup f_told_within = some ⟨oc_told_within, od_told_within, .func (PySem.W.fnOf "told_within" "told_within" (defArgs s_told_within) (defBody s_told_within) (defScope s_told_within) .none (.ref qk_told_within) dc_told_within pm_told_within an_told_within cd_told_within ct_told_within), sl_told_within⟩)
  (c_told_within : PySem.W.codeIn K cd_told_within "told_within" = true)
  (k_told_within : PySem.W.keepIn K (.ref f_told_within) = true)
  (kw0_told_within : PySem.W.nsIn K qk_told_within "ends" = some (some (.none)))
  (kw1_told_within : PySem.W.nsIn K qk_told_within "words" = some (some (.none)))
  (kw2_told_within : PySem.W.nsIn K qk_told_within "end" = some (some (.int (0) qkt2_told_within)))
  (a_told_count : PySem.W.nsIn K mainGlobals "told_count" = some (some (.ref f_told_count)))
  (l_told_count : K.lookup f_told_count = some ⟨oc_told_count, od_told_count, .func (PySem.W.fnOf "told_count" "told_count" (defArgs s_told_count) (defBody s_told_count) (defScope s_told_count) .none kV_told_count dc_told_count pm_told_count an_told_count cd_told_count ct_told_count), sl_told_count⟩)
  (c_told_count : PySem.W.codeIn K cd_told_count "told_count" = true)
  (k_told_count : PySem.W.keepIn K (.ref f_told_count) = true)
  (a_Lmix : PySem.W.nsIn K mainGlobals "_law_mix" = some (some (.ref f_Lmix)))
  (l_Lmix : K.lookup f_Lmix = some ⟨oc_Lmix, od_Lmix, .func (PySem.W.fnOf "_law_mix" "_law_mix" (defArgs s_Lmix) (defBody s_Lmix) (defScope s_Lmix) .none kV_Lmix dc_Lmix pm_Lmix an_Lmix cd_Lmix ct_Lmix), sl_Lmix⟩)
  (c_Lmix : PySem.W.codeIn K cd_Lmix "_law_mix" = true)
  (k_Lmix : PySem.W.keepIn K (.ref f_Lmix) = true)
  (a_Lhand : PySem.W.nsIn K mainGlobals "_law_hand" = some (some (.ref f_Lhand)))
  (l_Lhand : K.lookup f_Lhand = some ⟨oc_Lhand, od_Lhand, .func (PySem.W.fnOf "_law_hand" "_law_hand" (defArgs s_Lhand) (defBody s_Lhand) (defScope s_Lhand) .none kV_Lhand dc_Lhand pm_Lhand an_Lhand cd_Lhand ct_Lhand), sl_Lhand⟩)
  (c_Lhand : PySem.W.codeIn K cd_Lhand "_law_hand" = true)
  (k_Lhand : PySem.W.keepIn K (.ref f_Lhand) = true)
  (a_Ldraw : PySem.W.nsIn K mainGlobals "_law_draw" = some (some (.ref f_Ldraw)))
  (l_Ldraw : K.lookup f_Ldraw = some ⟨oc_Ldraw, od_Ldraw, .func (PySem.W.fnOf "_law_draw" "_law_draw" (defArgs s_Ldraw) (defBody s_Ldraw) (defScope s_Ldraw) .none kV_Ldraw dc_Ldraw pm_Ldraw an_Ldraw cd_Ldraw ct_Ldraw), sl_Ldraw⟩)
  (c_Ldraw : PySem.W.codeIn K cd_Ldraw "_law_draw" = true)
  (k_Ldraw : PySem.W.keepIn K (.ref f_Ldraw) = true)
  (a_Lis_number : PySem.W.nsIn K mainGlobals "_law_is_number" = some (some (.ref f_Lis_number)))
  (l_Lis_number : K.lookup f_Lis_number = some ⟨oc_Lis_number, od_Lis_number, .func (PySem.W.fnOf "_law_is_number" "_law_is_number" (defArgs s_Lis_number) (defBody s_Lis_number) (defScope s_Lis_number) .none kV_Lis_number dc_Lis_number pm_Lis_number an_Lis_number cd_Lis_number ct_Lis_number), sl_Lis_number⟩)
  (c_Lis_number : PySem.W.codeIn K cd_Lis_number "_law_is_number" = true)
  (k_Lis_number : PySem.W.keepIn K (.ref f_Lis_number) = true)
  (a_Lnumbers : PySem.W.nsIn K mainGlobals "_law_numbers" = some (some (.ref f_Lnumbers)))
  (l_Lnumbers : K.lookup f_Lnumbers = some ⟨oc_Lnumbers, od_Lnumbers, .func (PySem.W.fnOf "_law_numbers" "_law_numbers" (defArgs s_Lnumbers) (defBody s_Lnumbers) (defScope s_Lnumbers) .none kV_Lnumbers dc_Lnumbers pm_Lnumbers an_Lnumbers cd_Lnumbers ct_Lnumbers), sl_Lnumbers⟩)
  (c_Lnumbers : PySem.W.codeIn K cd_Lnumbers "_law_numbers" = true)
  (k_Lnumbers : PySem.W.keepIn K (.ref f_Lnumbers) = true)
  (a_Lsome_ends : PySem.W.nsIn K mainGlobals "_law_some_ends" = some (some (.ref f_Lsome_ends)))
  (l_Lsome_ends : K.lookup f_Lsome_ends = some ⟨oc_Lsome_ends, od_Lsome_ends, .func (PySem.W.fnOf "_law_some_ends" "_law_some_ends" (defArgs s_Lsome_ends) (defBody s_Lsome_ends) (defScope s_Lsome_ends) .none kV_Lsome_ends dc_Lsome_ends pm_Lsome_ends an_Lsome_ends cd_Lsome_ends ct_Lsome_ends), sl_Lsome_ends⟩)
  (c_Lsome_ends : PySem.W.codeIn K cd_Lsome_ends "_law_some_ends" = true)
  (k_Lsome_ends : PySem.W.keepIn K (.ref f_Lsome_ends) = true)
  (a_Lsome_words : PySem.W.nsIn K mainGlobals "_law_some_words" = some (some (.ref f_Lsome_words)))
  (l_Lsome_words : K.lookup f_Lsome_words = some ⟨oc_Lsome_words, od_Lsome_words, .func (PySem.W.fnOf "_law_some_words" "_law_some_words" (defArgs s_Lsome_words) (defBody s_Lsome_words) (defScope s_Lsome_words) .none kV_Lsome_words dc_Lsome_words pm_Lsome_words an_Lsome_words cd_Lsome_words ct_Lsome_words), sl_Lsome_words⟩)
  (c_Lsome_words : PySem.W.codeIn K cd_Lsome_words "_law_some_words" = true)
  (k_Lsome_words : PySem.W.keepIn K (.ref f_Lsome_words) = true)
  (a_Lallowed : PySem.W.nsIn K mainGlobals "_law_allowed" = some (some (.ref f_Lallowed)))
  (l_Lallowed : K.lookup f_Lallowed = some ⟨oc_Lallowed, od_Lallowed, .func (PySem.W.fnOf "_law_allowed" "_law_allowed" (defArgs s_Lallowed) (defBody s_Lallowed) (defScope s_Lallowed) .none kV_Lallowed dc_Lallowed pm_Lallowed an_Lallowed cd_Lallowed ct_Lallowed), sl_Lallowed⟩)
  (c_Lallowed : PySem.W.codeIn K cd_Lallowed "_law_allowed" = true)
  (k_Lallowed : PySem.W.keepIn K (.ref f_Lallowed) = true)
  (a_Llevel : PySem.W.nsIn K mainGlobals "_law_level" = some (some (.ref f_Llevel)))
  (l_Llevel : K.lookup f_Llevel = some ⟨oc_Llevel, od_Llevel, .func (PySem.W.fnOf "_law_level" "_law_level" (defArgs s_Llevel) (defBody s_Llevel) (defScope s_Llevel) .none kV_Llevel dc_Llevel pm_Llevel an_Llevel cd_Llevel ct_Llevel), sl_Llevel⟩)
  (c_Llevel : PySem.W.codeIn K cd_Llevel "_law_level" = true)
  (k_Llevel : PySem.W.keepIn K (.ref f_Llevel) = true)
  (a_Lfree : PySem.W.nsIn K mainGlobals "_law_free" = some (some (.ref f_Lfree)))
  (l_Lfree : K.lookup f_Lfree = some ⟨oc_Lfree, od_Lfree, .func (PySem.W.fnOf "_law_free" "_law_free" (defArgs s_Lfree) (defBody s_Lfree) (defScope s_Lfree) .none kV_Lfree dc_Lfree pm_Lfree an_Lfree cd_Lfree ct_Lfree), sl_Lfree⟩)
  (c_Lfree : PySem.W.codeIn K cd_Lfree "_law_free" = true)
  (k_Lfree : PySem.W.keepIn K (.ref f_Lfree) = true)
  (a_Lcounts : PySem.W.nsIn K mainGlobals "_law_counts" = some (some (.ref f_Lcounts)))
  (l_Lcounts : K.lookup f_Lcounts = some ⟨oc_Lcounts, od_Lcounts, .func (PySem.W.fnOf "_law_counts" "_law_counts" (defArgs s_Lcounts) (defBody s_Lcounts) (defScope s_Lcounts) .none kV_Lcounts dc_Lcounts pm_Lcounts an_Lcounts cd_Lcounts ct_Lcounts), sl_Lcounts⟩)
  (c_Lcounts : PySem.W.codeIn K cd_Lcounts "_law_counts" = true)
  (k_Lcounts : PySem.W.keepIn K (.ref f_Lcounts) = true)
  (a_Lsplit : PySem.W.nsIn K mainGlobals "_law_split" = some (some (.ref f_Lsplit)))
  (l_Lsplit : K.lookup f_Lsplit = some ⟨oc_Lsplit, od_Lsplit, .func (PySem.W.fnOf "_law_split" "_law_split" (defArgs s_Lsplit) (defBody s_Lsplit) (defScope s_Lsplit) .none kV_Lsplit dc_Lsplit pm_Lsplit an_Lsplit cd_Lsplit ct_Lsplit), sl_Lsplit⟩)
  (c_Lsplit : PySem.W.codeIn K cd_Lsplit "_law_split" = true)
  (k_Lsplit : PySem.W.keepIn K (.ref f_Lsplit) = true)
  (a_Lodd_ladder : PySem.W.nsIn K mainGlobals "_law_odd_ladder" = some (some (.ref f_Lodd_ladder)))
  (l_Lodd_ladder : K.lookup f_Lodd_ladder = some ⟨oc_Lodd_ladder, od_Lodd_ladder, .func (PySem.W.fnOf "_law_odd_ladder" "_law_odd_ladder" (defArgs s_Lodd_ladder) (defBody s_Lodd_ladder) (defScope s_Lodd_ladder) .none kV_Lodd_ladder dc_Lodd_ladder pm_Lodd_ladder an_Lodd_ladder cd_Lodd_ladder ct_Lodd_ladder), sl_Lodd_ladder⟩)
  (c_Lodd_ladder : PySem.W.codeIn K cd_Lodd_ladder "_law_odd_ladder" = true)
  (k_Lodd_ladder : PySem.W.keepIn K (.ref f_Lodd_ladder) = true)
  (a_Lodd_ends : PySem.W.nsIn K mainGlobals "_law_odd_ends" = some (some (.ref f_Lodd_ends)))
  (l_Lodd_ends : K.lookup f_Lodd_ends = some ⟨oc_Lodd_ends, od_Lodd_ends, .func (PySem.W.fnOf "_law_odd_ends" "_law_odd_ends" (defArgs s_Lodd_ends) (defBody s_Lodd_ends) (defScope s_Lodd_ends) .none kV_Lodd_ends dc_Lodd_ends pm_Lodd_ends an_Lodd_ends cd_Lodd_ends ct_Lodd_ends), sl_Lodd_ends⟩)
  (c_Lodd_ends : PySem.W.codeIn K cd_Lodd_ends "_law_odd_ends" = true)
  (k_Lodd_ends : PySem.W.keepIn K (.ref f_Lodd_ends) = true)
  (a_Lodd_words : PySem.W.nsIn K mainGlobals "_law_odd_words" = some (some (.ref f_Lodd_words)))
  (l_Lodd_words : K.lookup f_Lodd_words = some ⟨oc_Lodd_words, od_Lodd_words, .func (PySem.W.fnOf "_law_odd_words" "_law_odd_words" (defArgs s_Lodd_words) (defBody s_Lodd_words) (defScope s_Lodd_words) .none kV_Lodd_words dc_Lodd_words pm_Lodd_words an_Lodd_words cd_Lodd_words ct_Lodd_words), sl_Lodd_words⟩)
  (c_Lodd_words : PySem.W.codeIn K cd_Lodd_words "_law_odd_words" = true)
  (k_Lodd_words : PySem.W.keepIn K (.ref f_Lodd_words) = true)
  (a_Lrefused : PySem.W.nsIn K mainGlobals "_law_refused" = some (some (.ref f_Lrefused)))
  (l_Lrefused : K.lookup f_Lrefused = some ⟨oc_Lrefused, od_Lrefused, .func (PySem.W.fnOf "_law_refused" "_law_refused" (defArgs s_Lrefused) (defBody s_Lrefused) (defScope s_Lrefused) .none kV_Lrefused dc_Lrefused pm_Lrefused an_Lrefused cd_Lrefused ct_Lrefused), sl_Lrefused⟩)
  (c_Lrefused : PySem.W.codeIn K cd_Lrefused "_law_refused" = true)
  (k_Lrefused : PySem.W.keepIn K (.ref f_Lrefused) = true)
  (a_Lat_door : PySem.W.nsIn K mainGlobals "_law_at_door" = some (some (.ref f_Lat_door)))
  (l_Lat_door : K.lookup f_Lat_door = some ⟨oc_Lat_door, od_Lat_door, .func (PySem.W.fnOf "_law_at_door" "_law_at_door" (defArgs s_Lat_door) (defBody s_Lat_door) (defScope s_Lat_door) .none kV_Lat_door dc_Lat_door pm_Lat_door an_Lat_door cd_Lat_door ct_Lat_door), sl_Lat_door⟩)
  (c_Lat_door : PySem.W.codeIn K cd_Lat_door "_law_at_door" = true)
  (k_Lat_door : PySem.W.keepIn K (.ref f_Lat_door) = true)
  (a_Lis_told : PySem.W.nsIn K mainGlobals "_law_is_told" = some (some (.ref f_Lis_told)))
  (l_Lis_told : K.lookup f_Lis_told = some ⟨oc_Lis_told, od_Lis_told, .func (PySem.W.fnOf "_law_is_told" "_law_is_told" (defArgs s_Lis_told) (defBody s_Lis_told) (defScope s_Lis_told) .none kV_Lis_told dc_Lis_told pm_Lis_told an_Lis_told cd_Lis_told ct_Lis_told), sl_Lis_told⟩)
  (c_Lis_told : PySem.W.codeIn K cd_Lis_told "_law_is_told" = true)
  (k_Lis_told : PySem.W.keepIn K (.ref f_Lis_told) = true)
  (a_Lis_asked : PySem.W.nsIn K mainGlobals "_law_is_asked" = some (some (.ref f_Lis_asked)))
  (l_Lis_asked : K.lookup f_Lis_asked = some ⟨oc_Lis_asked, od_Lis_asked, .func (PySem.W.fnOf "_law_is_asked" "_law_is_asked" (defArgs s_Lis_asked) (defBody s_Lis_asked) (defScope s_Lis_asked) .none kV_Lis_asked dc_Lis_asked pm_Lis_asked an_Lis_asked cd_Lis_asked ct_Lis_asked), sl_Lis_asked⟩)
  (c_Lis_asked : PySem.W.codeIn K cd_Lis_asked "_law_is_asked" = true)
  (k_Lis_asked : PySem.W.keepIn K (.ref f_Lis_asked) = true)
  (a_Lsmall : PySem.W.nsIn K mainGlobals "_law_small" = some (some (.ref f_Lsmall)))
  (l_Lsmall : K.lookup f_Lsmall = some ⟨oc_Lsmall, od_Lsmall, .func (PySem.W.fnOf "_law_small" "_law_small" (defArgs s_Lsmall) (defBody s_Lsmall) (defScope s_Lsmall) .none kV_Lsmall dc_Lsmall pm_Lsmall an_Lsmall cd_Lsmall ct_Lsmall), sl_Lsmall⟩)
  (c_Lsmall : PySem.W.codeIn K cd_Lsmall "_law_small" = true)
  (k_Lsmall : PySem.W.keepIn K (.ref f_Lsmall) = true)
  (a_law : PySem.W.nsIn K mainGlobals "law" = some (some (.ref f_law)))
  (l_law : K.lookup f_law = some ⟨oc_law, od_law, .func (PySem.W.fnOf "law" "law" (defArgs s_law) (defBody s_law) (defScope s_law) .none kV_law dc_law pm_law an_law (.ref cc_law) ct_law), sl_law⟩)
  (c_law : PySem.W.codeIn K (.ref cc_law) "law" = true)
  (k_law : PySem.W.keepIn K (.ref f_law) = true)
  (k_CallError : PySem.W.keepIn K (.ref C_CallError) = true)
  (b_CallError : PySem.W.subIn K (.ref C_CallError) (.type "BaseException") = some true)
  (t_CallError : PySem.W.typeIn K (.ref C_CallError) = some (.type "type"))
  (i_CallError : PySem.W.isClsIn K C_CallError = true)
  (s_CallError : PySem.W.subIn K (.ref C_CallError) (.ref C_CallError) = some true)
  (x_CallError : PySem.W.excIn K C_CallError [.type "ValueError", .type "Exception", .type "BaseException", .type "object"] "ValueError.__new__" = true)
  (k_BadLadder : PySem.W.keepIn K (.ref C_BadLadder) = true)
  (b_BadLadder : PySem.W.subIn K (.ref C_BadLadder) (.type "BaseException") = some true)
  (t_BadLadder : PySem.W.typeIn K (.ref C_BadLadder) = some (.type "type"))
  (i_BadLadder : PySem.W.isClsIn K C_BadLadder = true)
  (s_BadLadder : PySem.W.subIn K (.ref C_BadLadder) (.ref C_BadLadder) = some true)
  (x_BadLadder : PySem.W.excIn K C_BadLadder [.type "ValueError", .type "Exception", .type "BaseException", .type "object"] "ValueError.__new__" = true)
  (u_BadEnds_BadLadder : PySem.W.subIn K (.ref C_BadEnds) (.ref C_BadLadder) = some false)
  (k_BadEnds : PySem.W.keepIn K (.ref C_BadEnds) = true)
  (b_BadEnds : PySem.W.subIn K (.ref C_BadEnds) (.type "BaseException") = some true)
  (t_BadEnds : PySem.W.typeIn K (.ref C_BadEnds) = some (.type "type"))
  (i_BadEnds : PySem.W.isClsIn K C_BadEnds = true)
  (s_BadEnds : PySem.W.subIn K (.ref C_BadEnds) (.ref C_BadEnds) = some true)
  (x_BadEnds : PySem.W.excIn K C_BadEnds [.type "ValueError", .type "Exception", .type "BaseException", .type "object"] "ValueError.__new__" = true)
  (u_BadEnd_BadLadder : PySem.W.subIn K (.ref C_BadEnd) (.ref C_BadLadder) = some false)
  (u_BadEnd_BadEnds : PySem.W.subIn K (.ref C_BadEnd) (.ref C_BadEnds) = some false)
  (u_BadEnd_BadWords : PySem.W.subIn K (.ref C_BadEnd) (.ref C_BadWords) = some false)
  (k_BadEnd : PySem.W.keepIn K (.ref C_BadEnd) = true)
  (b_BadEnd : PySem.W.subIn K (.ref C_BadEnd) (.type "BaseException") = some true)
  (t_BadEnd : PySem.W.typeIn K (.ref C_BadEnd) = some (.type "type"))
  (i_BadEnd : PySem.W.isClsIn K C_BadEnd = true)
  (s_BadEnd : PySem.W.subIn K (.ref C_BadEnd) (.ref C_BadEnd) = some true)
  (x_BadEnd : PySem.W.excIn K C_BadEnd [.type "ValueError", .type "Exception", .type "BaseException", .type "object"] "ValueError.__new__" = true)
  (u_BadWords_BadLadder : PySem.W.subIn K (.ref C_BadWords) (.ref C_BadLadder) = some false)
  (u_BadWords_BadEnds : PySem.W.subIn K (.ref C_BadWords) (.ref C_BadEnds) = some false)
  (k_BadWords : PySem.W.keepIn K (.ref C_BadWords) = true)
  (b_BadWords : PySem.W.subIn K (.ref C_BadWords) (.type "BaseException") = some true)
  (t_BadWords : PySem.W.typeIn K (.ref C_BadWords) = some (.type "type"))
  (i_BadWords : PySem.W.isClsIn K C_BadWords = true)
  (s_BadWords : PySem.W.subIn K (.ref C_BadWords) (.ref C_BadWords) = some true)
  (x_BadWords : PySem.W.excIn K C_BadWords [.type "ValueError", .type "Exception", .type "BaseException", .type "object"] "ValueError.__new__" = true)
  (z_ValueError : PySem.W.nsIn K mainGlobals "ValueError" = some none)
  (z_abs : PySem.W.nsIn K mainGlobals "abs" = some none)
  (z_all : PySem.W.nsIn K mainGlobals "all" = some none)
  (z_bool : PySem.W.nsIn K mainGlobals "bool" = some none)
  (z_enumerate : PySem.W.nsIn K mainGlobals "enumerate" = some none)
  (z_int : PySem.W.nsIn K mainGlobals "int" = some none)
  (z_isinstance : PySem.W.nsIn K mainGlobals "isinstance" = some none)
  (z_len : PySem.W.nsIn K mainGlobals "len" = some none)
  (z_list : PySem.W.nsIn K mainGlobals "list" = some none)
  (z_max : PySem.W.nsIn K mainGlobals "max" = some none)
  (z_min : PySem.W.nsIn K mainGlobals "min" = some none)
  (z_range : PySem.W.nsIn K mainGlobals "range" = some none)
  (z_repr : PySem.W.nsIn K mainGlobals "repr" = some none)
  (z_sum : PySem.W.nsIn K mainGlobals "sum" = some none)
  (z_tuple : PySem.W.nsIn K mainGlobals "tuple" = some none)
  (c_LADDER_MOST : PySem.W.nsIn K mainGlobals "LADDER_MOST" = some (some (.int (6) t_LADDER_MOST)))
  (c_TOLD_LADDER_MOST : PySem.W.nsIn K mainGlobals "TOLD_LADDER_MOST" = some (some (.int (30) t_TOLD_LADDER_MOST)))
  (c_COUNT_LADDER_MOST : PySem.W.nsIn K mainGlobals "COUNT_LADDER_MOST" = some (some (.int (200) t_COUNT_LADDER_MOST)))
  (v_law : K.lookup cc_law = some ⟨.type "code", cdd_law, .fields cvs_law, csl_law⟩)
  (v11_law : cvs_law[11]? = some (.ref P_law))
  (w11_law : cvs_law.getD 11 .none = .ref P_law)
  (v18_law : cvs_law.getD 18 .none = .str cf_law cft_law)
  (v7_law : cvs_law.getD 7 .none = .int cg_law cgt_law)
  (v9_law : cvs_law.getD 9 .none = .bool ci_law)
  (v10_law : cvs_law.getD 10 .none = .int cx_law ctt_law)
  (nPC_law : cc_law ≠ P_law)
  (nP_law : K.lookup P_law = none) :
    Jv.LawGT l w K 8 63 "_law_script" mg fa h := by
  have e : f_law = fa := Value.ref.inj (Option.some.inj ((PySem.W.mg_of X G a_law).symm.trans hfa))
  subst e
  have F_is_whole : FunD K "is_whole" "is_whole" (defArgs s_is_whole) (defBody s_is_whole) (defScope s_is_whole) [.non, .non] [] f_is_whole (PySem.W.fnOf "is_whole" "is_whole" (defArgs s_is_whole) (defBody s_is_whole) (defScope s_is_whole) (.ref q_is_whole) kV_is_whole dc_is_whole pm_is_whole an_is_whole cd_is_whole ct_is_whole) := ⟨⟨oc_is_whole, od_is_whole, _, kV_is_whole, dc_is_whole, pm_is_whole, an_is_whole, cd_is_whole, ct_is_whole, sl_is_whole, rfl, l_is_whole, c_is_whole, .inr ⟨by simp, q_is_whole, _, [Value.none, Value.none], qn_is_whole, rfl, t_is_whole, rfl, (.cons rfl (.cons rfl .nil))⟩, .inl rfl⟩, k_is_whole⟩
  have F_is_sequence := fun_mk (st := s_is_sequence) l_is_sequence c_is_sequence k_is_sequence
  have F_check_ladder : FunD K "check_ladder" "check_ladder" (defArgs s_check_ladder) (defBody s_check_ladder) (defScope s_check_ladder) [(.int 6)] [] f_check_ladder (PySem.W.fnOf "check_ladder" "check_ladder" (defArgs s_check_ladder) (defBody s_check_ladder) (defScope s_check_ladder) (.ref q_check_ladder) kV_check_ladder dc_check_ladder pm_check_ladder an_check_ladder cd_check_ladder ct_check_ladder) := ⟨⟨oc_check_ladder, od_check_ladder, _, kV_check_ladder, dc_check_ladder, pm_check_ladder, an_check_ladder, cd_check_ladder, ct_check_ladder, sl_check_ladder, rfl, l_check_ladder, c_check_ladder, .inr ⟨by simp, q_check_ladder, _, [Value.int (6) qt0_check_ladder], qn_check_ladder, rfl, t_check_ladder, rfl, (.cons ⟨_, rfl⟩ .nil)⟩, .inl rfl⟩, k_check_ladder⟩
  have F_allowed_ends := fun_mk (st := s_allowed_ends) l_allowed_ends c_allowed_ends k_allowed_ends
  have F_words_left := fun_mk (st := s_words_left) l_words_left c_words_left k_words_left
  have F_counts_by_words := fun_mk (st := s_counts_by_words) l_counts_by_words c_counts_by_words k_counts_by_words
  have F_split_at := fun_mk (st := s_split_at) l_split_at c_split_at k_split_at
  have F_told_split := fun_mk (st := s_told_split) l_told_split c_told_split k_told_split
  have F_told_within := fun_mk (st := s_told_within) l_told_within c_told_within k_told_within
  have F_told_count := fun_mk (st := s_told_count) l_told_count c_told_count k_told_count
  have F_Lmix := fun_mk (st := s_Lmix) l_Lmix c_Lmix k_Lmix
  have F_Lhand := fun_mk (st := s_Lhand) l_Lhand c_Lhand k_Lhand
  have F_Ldraw := fun_mk (st := s_Ldraw) l_Ldraw c_Ldraw k_Ldraw
  have F_Lis_number := fun_mk (st := s_Lis_number) l_Lis_number c_Lis_number k_Lis_number
  have F_Lnumbers := fun_mk (st := s_Lnumbers) l_Lnumbers c_Lnumbers k_Lnumbers
  have F_Lsome_ends := fun_mk (st := s_Lsome_ends) l_Lsome_ends c_Lsome_ends k_Lsome_ends
  have F_Lsome_words := fun_mk (st := s_Lsome_words) l_Lsome_words c_Lsome_words k_Lsome_words
  have F_Lallowed := fun_mk (st := s_Lallowed) l_Lallowed c_Lallowed k_Lallowed
  have F_Llevel := fun_mk (st := s_Llevel) l_Llevel c_Llevel k_Llevel
  have F_Lfree := fun_mk (st := s_Lfree) l_Lfree c_Lfree k_Lfree
  have F_Lcounts := fun_mk (st := s_Lcounts) l_Lcounts c_Lcounts k_Lcounts
  have F_Lsplit := fun_mk (st := s_Lsplit) l_Lsplit c_Lsplit k_Lsplit
  have F_Lodd_ladder := fun_mk (st := s_Lodd_ladder) l_Lodd_ladder c_Lodd_ladder k_Lodd_ladder
  have F_Lodd_ends := fun_mk (st := s_Lodd_ends) l_Lodd_ends c_Lodd_ends k_Lodd_ends
  have F_Lodd_words := fun_mk (st := s_Lodd_words) l_Lodd_words c_Lodd_words k_Lodd_words
  have F_Lrefused := fun_mk (st := s_Lrefused) l_Lrefused c_Lrefused k_Lrefused
  have F_Lat_door := fun_mk (st := s_Lat_door) l_Lat_door c_Lat_door k_Lat_door
  have F_Lis_told := fun_mk (st := s_Lis_told) l_Lis_told c_Lis_told k_Lis_told
  have F_Lis_asked := fun_mk (st := s_Lis_asked) l_Lis_asked c_Lis_asked k_Lis_asked
  have F_Lsmall := fun_mk (st := s_Lsmall) l_Lsmall c_Lsmall k_Lsmall
  have F_law := fun_mk (st := s_law) l_law c_law k_law
  let T : Tx := {
    f_is_whole := f_is_whole,
    d_is_whole := PySem.W.fnOf "is_whole" "is_whole" (defArgs s_is_whole) (defBody s_is_whole) (defScope s_is_whole) (.ref q_is_whole) kV_is_whole dc_is_whole pm_is_whole an_is_whole cd_is_whole ct_is_whole,
    e1_is_whole := [Value.none],
    e2_is_whole := [Value.none, Value.none],
    f_is_sequence := f_is_sequence,
    d_is_sequence := PySem.W.fnOf "is_sequence" "is_sequence" (defArgs s_is_sequence) (defBody s_is_sequence) (defScope s_is_sequence) .none kV_is_sequence dc_is_sequence pm_is_sequence an_is_sequence cd_is_sequence ct_is_sequence,
    f_check_ladder := f_check_ladder,
    d_check_ladder := PySem.W.fnOf "check_ladder" "check_ladder" (defArgs s_check_ladder) (defBody s_check_ladder) (defScope s_check_ladder) (.ref q_check_ladder) kV_check_ladder dc_check_ladder pm_check_ladder an_check_ladder cd_check_ladder ct_check_ladder,
    e1_check_ladder := [Value.int (6) qt0_check_ladder],
    f_allowed_ends := f_allowed_ends,
    d_allowed_ends := PySem.W.fnOf "allowed_ends" "allowed_ends" (defArgs s_allowed_ends) (defBody s_allowed_ends) (defScope s_allowed_ends) .none kV_allowed_ends dc_allowed_ends pm_allowed_ends an_allowed_ends cd_allowed_ends ct_allowed_ends,
    f_words_left := f_words_left,
    d_words_left := PySem.W.fnOf "words_left" "words_left" (defArgs s_words_left) (defBody s_words_left) (defScope s_words_left) .none kV_words_left dc_words_left pm_words_left an_words_left cd_words_left ct_words_left,
    f_counts_by_words := f_counts_by_words,
    d_counts_by_words := PySem.W.fnOf "counts_by_words" "counts_by_words" (defArgs s_counts_by_words) (defBody s_counts_by_words) (defScope s_counts_by_words) .none kV_counts_by_words dc_counts_by_words pm_counts_by_words an_counts_by_words cd_counts_by_words ct_counts_by_words,
    f_split_at := f_split_at,
    d_split_at := PySem.W.fnOf "split_at" "split_at" (defArgs s_split_at) (defBody s_split_at) (defScope s_split_at) .none kV_split_at dc_split_at pm_split_at an_split_at cd_split_at ct_split_at,
    f_told_split := f_told_split,
    d_told_split := PySem.W.fnOf "told_split" "told_split" (defArgs s_told_split) (defBody s_told_split) (defScope s_told_split) .none (.ref qk_told_split) dc_told_split pm_told_split an_told_split cd_told_split ct_told_split,
    e3_told_split := [.none, .none, .int (0) qkt2_told_split],
    f_told_within := f_told_within,
    d_told_within := PySem.W.fnOf "told_within" "told_within" (defArgs s_told_within) (defBody s_told_within) (defScope s_told_within) .none (.ref qk_told_within) dc_told_within pm_told_within an_told_within cd_told_within ct_told_within,
    e3_told_within := [.none, .none, .int (0) qkt2_told_within],
    f_told_count := f_told_count,
    d_told_count := PySem.W.fnOf "told_count" "told_count" (defArgs s_told_count) (defBody s_told_count) (defScope s_told_count) .none kV_told_count dc_told_count pm_told_count an_told_count cd_told_count ct_told_count,
    f_Lmix := f_Lmix,
    d_Lmix := PySem.W.fnOf "_law_mix" "_law_mix" (defArgs s_Lmix) (defBody s_Lmix) (defScope s_Lmix) .none kV_Lmix dc_Lmix pm_Lmix an_Lmix cd_Lmix ct_Lmix,
    f_Lhand := f_Lhand,
    d_Lhand := PySem.W.fnOf "_law_hand" "_law_hand" (defArgs s_Lhand) (defBody s_Lhand) (defScope s_Lhand) .none kV_Lhand dc_Lhand pm_Lhand an_Lhand cd_Lhand ct_Lhand,
    f_Ldraw := f_Ldraw,
    d_Ldraw := PySem.W.fnOf "_law_draw" "_law_draw" (defArgs s_Ldraw) (defBody s_Ldraw) (defScope s_Ldraw) .none kV_Ldraw dc_Ldraw pm_Ldraw an_Ldraw cd_Ldraw ct_Ldraw,
    f_Lis_number := f_Lis_number,
    d_Lis_number := PySem.W.fnOf "_law_is_number" "_law_is_number" (defArgs s_Lis_number) (defBody s_Lis_number) (defScope s_Lis_number) .none kV_Lis_number dc_Lis_number pm_Lis_number an_Lis_number cd_Lis_number ct_Lis_number,
    f_Lnumbers := f_Lnumbers,
    d_Lnumbers := PySem.W.fnOf "_law_numbers" "_law_numbers" (defArgs s_Lnumbers) (defBody s_Lnumbers) (defScope s_Lnumbers) .none kV_Lnumbers dc_Lnumbers pm_Lnumbers an_Lnumbers cd_Lnumbers ct_Lnumbers,
    f_Lsome_ends := f_Lsome_ends,
    d_Lsome_ends := PySem.W.fnOf "_law_some_ends" "_law_some_ends" (defArgs s_Lsome_ends) (defBody s_Lsome_ends) (defScope s_Lsome_ends) .none kV_Lsome_ends dc_Lsome_ends pm_Lsome_ends an_Lsome_ends cd_Lsome_ends ct_Lsome_ends,
    f_Lsome_words := f_Lsome_words,
    d_Lsome_words := PySem.W.fnOf "_law_some_words" "_law_some_words" (defArgs s_Lsome_words) (defBody s_Lsome_words) (defScope s_Lsome_words) .none kV_Lsome_words dc_Lsome_words pm_Lsome_words an_Lsome_words cd_Lsome_words ct_Lsome_words,
    f_Lallowed := f_Lallowed,
    d_Lallowed := PySem.W.fnOf "_law_allowed" "_law_allowed" (defArgs s_Lallowed) (defBody s_Lallowed) (defScope s_Lallowed) .none kV_Lallowed dc_Lallowed pm_Lallowed an_Lallowed cd_Lallowed ct_Lallowed,
    f_Llevel := f_Llevel,
    d_Llevel := PySem.W.fnOf "_law_level" "_law_level" (defArgs s_Llevel) (defBody s_Llevel) (defScope s_Llevel) .none kV_Llevel dc_Llevel pm_Llevel an_Llevel cd_Llevel ct_Llevel,
    f_Lfree := f_Lfree,
    d_Lfree := PySem.W.fnOf "_law_free" "_law_free" (defArgs s_Lfree) (defBody s_Lfree) (defScope s_Lfree) .none kV_Lfree dc_Lfree pm_Lfree an_Lfree cd_Lfree ct_Lfree,
    f_Lcounts := f_Lcounts,
    d_Lcounts := PySem.W.fnOf "_law_counts" "_law_counts" (defArgs s_Lcounts) (defBody s_Lcounts) (defScope s_Lcounts) .none kV_Lcounts dc_Lcounts pm_Lcounts an_Lcounts cd_Lcounts ct_Lcounts,
    f_Lsplit := f_Lsplit,
    d_Lsplit := PySem.W.fnOf "_law_split" "_law_split" (defArgs s_Lsplit) (defBody s_Lsplit) (defScope s_Lsplit) .none kV_Lsplit dc_Lsplit pm_Lsplit an_Lsplit cd_Lsplit ct_Lsplit,
    f_Lodd_ladder := f_Lodd_ladder,
    d_Lodd_ladder := PySem.W.fnOf "_law_odd_ladder" "_law_odd_ladder" (defArgs s_Lodd_ladder) (defBody s_Lodd_ladder) (defScope s_Lodd_ladder) .none kV_Lodd_ladder dc_Lodd_ladder pm_Lodd_ladder an_Lodd_ladder cd_Lodd_ladder ct_Lodd_ladder,
    f_Lodd_ends := f_Lodd_ends,
    d_Lodd_ends := PySem.W.fnOf "_law_odd_ends" "_law_odd_ends" (defArgs s_Lodd_ends) (defBody s_Lodd_ends) (defScope s_Lodd_ends) .none kV_Lodd_ends dc_Lodd_ends pm_Lodd_ends an_Lodd_ends cd_Lodd_ends ct_Lodd_ends,
    f_Lodd_words := f_Lodd_words,
    d_Lodd_words := PySem.W.fnOf "_law_odd_words" "_law_odd_words" (defArgs s_Lodd_words) (defBody s_Lodd_words) (defScope s_Lodd_words) .none kV_Lodd_words dc_Lodd_words pm_Lodd_words an_Lodd_words cd_Lodd_words ct_Lodd_words,
    f_Lrefused := f_Lrefused,
    d_Lrefused := PySem.W.fnOf "_law_refused" "_law_refused" (defArgs s_Lrefused) (defBody s_Lrefused) (defScope s_Lrefused) .none kV_Lrefused dc_Lrefused pm_Lrefused an_Lrefused cd_Lrefused ct_Lrefused,
    f_Lat_door := f_Lat_door,
    d_Lat_door := PySem.W.fnOf "_law_at_door" "_law_at_door" (defArgs s_Lat_door) (defBody s_Lat_door) (defScope s_Lat_door) .none kV_Lat_door dc_Lat_door pm_Lat_door an_Lat_door cd_Lat_door ct_Lat_door,
    f_Lis_told := f_Lis_told,
    d_Lis_told := PySem.W.fnOf "_law_is_told" "_law_is_told" (defArgs s_Lis_told) (defBody s_Lis_told) (defScope s_Lis_told) .none kV_Lis_told dc_Lis_told pm_Lis_told an_Lis_told cd_Lis_told ct_Lis_told,
    f_Lis_asked := f_Lis_asked,
    d_Lis_asked := PySem.W.fnOf "_law_is_asked" "_law_is_asked" (defArgs s_Lis_asked) (defBody s_Lis_asked) (defScope s_Lis_asked) .none kV_Lis_asked dc_Lis_asked pm_Lis_asked an_Lis_asked cd_Lis_asked ct_Lis_asked,
    f_Lsmall := f_Lsmall,
    d_Lsmall := PySem.W.fnOf "_law_small" "_law_small" (defArgs s_Lsmall) (defBody s_Lsmall) (defScope s_Lsmall) .none kV_Lsmall dc_Lsmall pm_Lsmall an_Lsmall cd_Lsmall ct_Lsmall,
    f_law := f_law,
    d_law := PySem.W.fnOf "law" "law" (defArgs s_law) (defBody s_law) (defScope s_law) .none kV_law dc_law pm_law an_law (.ref cc_law) ct_law,
    C_CallError := C_CallError,
    C_BadLadder := C_BadLadder,
    C_BadEnds := C_BadEnds,
    C_BadEnd := C_BadEnd,
    C_BadWords := C_BadWords,
    t_LADDER_MOST := t_LADDER_MOST,
    t_TOLD_LADDER_MOST := t_TOLD_LADDER_MOST,
    t_COUNT_LADDER_MOST := t_COUNT_LADDER_MOST }
  have O : Ok K mg T := {
    F_is_whole := F_is_whole,
    b_is_whole := Jv.bindsD (K := K) (T := q_is_whole) (m := 3) t_is_whole rfl rfl fun us hl => match us, hl with | [_, _, _], _ => ⟨_, rfl, rfl⟩,
    b1_is_whole := ⟨(.cons rfl .nil), Jv.bindsD (K := K) (T := q_is_whole) (m := 2) t_is_whole rfl rfl fun us hl => match us, hl with | [_, _], _ => ⟨_, rfl, rfl⟩⟩,
    b2_is_whole := ⟨(.cons rfl (.cons rfl .nil)), Jv.bindsD (K := K) (T := q_is_whole) (m := 1) t_is_whole rfl rfl fun us hl => match us, hl with | [_], _ => ⟨_, rfl, rfl⟩⟩,
    m_is_whole := PySem.W.mg_of X G a_is_whole,
    F_is_sequence := F_is_sequence,
    b_is_sequence := F_is_sequence.binds (ps := ["thing"]) fun _ _ _ _ _ _ us hl => match us, hl with | [_], _ => rfl,
    m_is_sequence := PySem.W.mg_of X G a_is_sequence,
    F_check_ladder := F_check_ladder,
    b_check_ladder := Jv.bindsD (K := K) (T := q_check_ladder) (m := 2) t_check_ladder rfl rfl fun us hl => match us, hl with | [_, _], _ => ⟨_, rfl, rfl⟩,
    b1_check_ladder := ⟨(.cons ⟨_, rfl⟩ .nil), Jv.bindsD (K := K) (T := q_check_ladder) (m := 1) t_check_ladder rfl rfl fun us hl => match us, hl with | [_], _ => ⟨_, rfl, rfl⟩⟩,
    m_check_ladder := PySem.W.mg_of X G a_check_ladder,
    F_allowed_ends := F_allowed_ends,
    b_allowed_ends := F_allowed_ends.binds (ps := ["ladder", "ends"]) fun _ _ _ _ _ _ us hl => match us, hl with | [_, _], _ => rfl,
    m_allowed_ends := PySem.W.mg_of X G a_allowed_ends,
    F_words_left := F_words_left,
    b_words_left := F_words_left.binds (ps := ["ladder", "words"]) fun _ _ _ _ _ _ us hl => match us, hl with | [_, _], _ => rfl,
    m_words_left := PySem.W.mg_of X G a_words_left,
    F_counts_by_words := F_counts_by_words,
    b_counts_by_words := F_counts_by_words.binds (ps := ["allowed", "words"]) fun _ _ _ _ _ _ us hl => match us, hl with | [_, _], _ => rfl,
    m_counts_by_words := PySem.W.mg_of X G a_counts_by_words,
    F_split_at := F_split_at,
    b_split_at := F_split_at.binds (ps := ["allowed", "counts", "words", "end"]) fun _ _ _ _ _ _ us hl => match us, hl with | [_, _, _, _], _ => rfl,
    m_split_at := PySem.W.mg_of X G a_split_at,
    F_told_split := F_told_split,
    b3_told_split := ⟨(.cons rfl (.cons rfl (.cons ⟨_, rfl⟩ .nil))), Jv.bindsK (K := K) (D := qk_told_split) (m := 1) [("ends", .none), ("words", .none), ("end", .int (0) qkt2_told_split)] (Jv.hmsC kw0_told_split (Jv.hmsC kw1_told_split (Jv.hmsC kw2_told_split Jv.hms0))) rfl fun us hl => match us, hl with | [_], _ => ⟨_, _, _, _, _, _, rfl, rfl, ⟨_, _, _, _, _, _, rfl, rfl, ⟨_, _, _, _, _, _, rfl, rfl, rfl⟩⟩⟩⟩,
    m_told_split := PySem.W.mg_of X G a_told_split,
    F_told_within := F_told_within,
    b3_told_within := ⟨(.cons rfl (.cons rfl (.cons ⟨_, rfl⟩ .nil))), Jv.bindsK (K := K) (D := qk_told_within) (m := 1) [("ends", .none), ("words", .none), ("end", .int (0) qkt2_told_within)] (Jv.hmsC kw0_told_within (Jv.hmsC kw1_told_within (Jv.hmsC kw2_told_within Jv.hms0))) rfl fun us hl => match us, hl with | [_], _ => ⟨_, _, _, _, _, _, rfl, rfl, ⟨_, _, _, _, _, _, rfl, rfl, ⟨_, _, _, _, _, _, rfl, rfl, rfl⟩⟩⟩⟩,
    m_told_within := PySem.W.mg_of X G a_told_within,
    F_told_count := F_told_count,
    b_told_count := F_told_count.binds (ps := ["ladder"]) fun _ _ _ _ _ _ us hl => match us, hl with | [_], _ => rfl,
    m_told_count := PySem.W.mg_of X G a_told_count,
    F_Lmix := F_Lmix,
    b_Lmix := F_Lmix.binds (ps := ["_law_number", "_law_turn"]) fun _ _ _ _ _ _ us hl => match us, hl with | [_, _], _ => rfl,
    m_Lmix := PySem.W.mg_of X G a_Lmix,
    F_Lhand := F_Lhand,
    b_Lhand := F_Lhand.binds (ps := ["_law_script"]) fun _ _ _ _ _ _ us hl => match us, hl with | [_], _ => rfl,
    m_Lhand := PySem.W.mg_of X G a_Lhand,
    F_Ldraw := F_Ldraw,
    b_Ldraw := F_Ldraw.binds (ps := ["_law_hand_here", "_law_many"]) fun _ _ _ _ _ _ us hl => match us, hl with | [_, _], _ => rfl,
    m_Ldraw := PySem.W.mg_of X G a_Ldraw,
    F_Lis_number := F_Lis_number,
    b_Lis_number := F_Lis_number.binds (ps := ["_law_thing"]) fun _ _ _ _ _ _ us hl => match us, hl with | [_], _ => rfl,
    m_Lis_number := PySem.W.mg_of X G a_Lis_number,
    F_Lnumbers := F_Lnumbers,
    b_Lnumbers := F_Lnumbers.binds (ps := ["_law_thing", "_law_many"]) fun _ _ _ _ _ _ us hl => match us, hl with | [_, _], _ => rfl,
    m_Lnumbers := PySem.W.mg_of X G a_Lnumbers,
    F_Lsome_ends := F_Lsome_ends,
    b_Lsome_ends := F_Lsome_ends.binds (ps := ["_law_hand_here", "_law_ladder"]) fun _ _ _ _ _ _ us hl => match us, hl with | [_, _], _ => rfl,
    m_Lsome_ends := PySem.W.mg_of X G a_Lsome_ends,
    F_Lsome_words := F_Lsome_words,
    b_Lsome_words := F_Lsome_words.binds (ps := ["_law_hand_here", "_law_ladder"]) fun _ _ _ _ _ _ us hl => match us, hl with | [_, _], _ => rfl,
    m_Lsome_words := PySem.W.mg_of X G a_Lsome_words,
    F_Lallowed := F_Lallowed,
    b_Lallowed := F_Lallowed.binds (ps := ["_law_ladder", "_law_limits"]) fun _ _ _ _ _ _ us hl => match us, hl with | [_, _], _ => rfl,
    m_Lallowed := PySem.W.mg_of X G a_Lallowed,
    F_Llevel := F_Llevel,
    b_Llevel := F_Llevel.binds (ps := ["_law_allowed_here", "_law_told", "_law_asked"]) fun _ _ _ _ _ _ us hl => match us, hl with | [_, _, _], _ => rfl,
    m_Llevel := PySem.W.mg_of X G a_Llevel,
    F_Lfree := F_Lfree,
    b_Lfree := F_Lfree.binds (ps := ["_law_allowed_here"]) fun _ _ _ _ _ _ us hl => match us, hl with | [_], _ => rfl,
    m_Lfree := PySem.W.mg_of X G a_Lfree,
    F_Lcounts := F_Lcounts,
    b_Lcounts := F_Lcounts.binds (ps := ["_law_allowed_here", "_law_most"]) fun _ _ _ _ _ _ us hl => match us, hl with | [_, _], _ => rfl,
    m_Lcounts := PySem.W.mg_of X G a_Lcounts,
    F_Lsplit := F_Lsplit,
    b_Lsplit := F_Lsplit.binds (ps := ["_law_allowed_here", "_law_most", "_law_stood"]) fun _ _ _ _ _ _ us hl => match us, hl with | [_, _, _], _ => rfl,
    m_Lsplit := PySem.W.mg_of X G a_Lsplit,
    F_Lodd_ladder := F_Lodd_ladder,
    b_Lodd_ladder := F_Lodd_ladder.binds (ps := ["_law_hand_here", "_law_most"]) fun _ _ _ _ _ _ us hl => match us, hl with | [_, _], _ => rfl,
    m_Lodd_ladder := PySem.W.mg_of X G a_Lodd_ladder,
    F_Lodd_ends := F_Lodd_ends,
    b_Lodd_ends := F_Lodd_ends.binds (ps := ["_law_hand_here", "_law_ladder"]) fun _ _ _ _ _ _ us hl => match us, hl with | [_, _], _ => rfl,
    m_Lodd_ends := PySem.W.mg_of X G a_Lodd_ends,
    F_Lodd_words := F_Lodd_words,
    b_Lodd_words := F_Lodd_words.binds (ps := ["_law_hand_here"]) fun _ _ _ _ _ _ us hl => match us, hl with | [_], _ => rfl,
    m_Lodd_words := PySem.W.mg_of X G a_Lodd_words,
    F_Lrefused := F_Lrefused,
    b_Lrefused := F_Lrefused.binds (ps := ["_law_call"]) fun _ _ _ _ _ _ us hl => match us, hl with | [_], _ => rfl,
    m_Lrefused := PySem.W.mg_of X G a_Lrefused,
    F_Lat_door := F_Lat_door,
    b_Lat_door := F_Lat_door.binds (ps := ["_law_way", "_law_ladder", "_law_limits", "_law_most", "_law_stood"]) fun _ _ _ _ _ _ us hl => match us, hl with | [_, _, _, _, _], _ => rfl,
    m_Lat_door := PySem.W.mg_of X G a_Lat_door,
    F_Lis_told := F_Lis_told,
    b_Lis_told := F_Lis_told.binds (ps := ["_law_allowed_here", "_law_most", "_law_stood", "_law_lot"]) fun _ _ _ _ _ _ us hl => match us, hl with | [_, _, _, _], _ => rfl,
    m_Lis_told := PySem.W.mg_of X G a_Lis_told,
    F_Lis_asked := F_Lis_asked,
    b_Lis_asked := F_Lis_asked.binds (ps := ["_law_allowed_here", "_law_most", "_law_stood", "_law_lot"]) fun _ _ _ _ _ _ us hl => match us, hl with | [_, _, _, _], _ => rfl,
    m_Lis_asked := PySem.W.mg_of X G a_Lis_asked,
    F_Lsmall := F_Lsmall,
    b_Lsmall := F_Lsmall.binds (ps := ["_law_hand_here"]) fun _ _ _ _ _ _ us hl => match us, hl with | [_], _ => rfl,
    m_Lsmall := PySem.W.mg_of X G a_Lsmall,
    F_law := F_law,
    b_law := F_law.binds (ps := ["_law_script"]) fun _ _ _ _ _ _ us hl => match us, hl with | [_], _ => rfl,
    m_law := PySem.W.mg_of X G a_law,
    m_CallError := PySem.W.mg_of X G a_CallError,
    e_CallError := ⟨x_CallError, k_CallError, b_CallError, t_CallError, i_CallError, s_CallError⟩,
    m_BadLadder := PySem.W.mg_of X G a_BadLadder,
    e_BadLadder := ⟨x_BadLadder, k_BadLadder, b_BadLadder, t_BadLadder, i_BadLadder, s_BadLadder⟩,
    m_BadEnds := PySem.W.mg_of X G a_BadEnds,
    u_BadEnds_BadLadder := u_BadEnds_BadLadder,
    e_BadEnds := ⟨x_BadEnds, k_BadEnds, b_BadEnds, t_BadEnds, i_BadEnds, s_BadEnds⟩,
    m_BadEnd := PySem.W.mg_of X G a_BadEnd,
    u_BadEnd_BadLadder := u_BadEnd_BadLadder,
    u_BadEnd_BadEnds := u_BadEnd_BadEnds,
    u_BadEnd_BadWords := u_BadEnd_BadWords,
    e_BadEnd := ⟨x_BadEnd, k_BadEnd, b_BadEnd, t_BadEnd, i_BadEnd, s_BadEnd⟩,
    m_BadWords := PySem.W.mg_of X G a_BadWords,
    u_BadWords_BadLadder := u_BadWords_BadLadder,
    u_BadWords_BadEnds := u_BadWords_BadEnds,
    e_BadWords := ⟨x_BadWords, k_BadWords, b_BadWords, t_BadWords, i_BadWords, s_BadWords⟩,
    z_ValueError := PySem.W.mg_none_of X G z_ValueError,
    z_abs := PySem.W.mg_none_of X G z_abs,
    z_all := PySem.W.mg_none_of X G z_all,
    z_bool := PySem.W.mg_none_of X G z_bool,
    z_enumerate := PySem.W.mg_none_of X G z_enumerate,
    z_int := PySem.W.mg_none_of X G z_int,
    z_isinstance := PySem.W.mg_none_of X G z_isinstance,
    z_len := PySem.W.mg_none_of X G z_len,
    z_list := PySem.W.mg_none_of X G z_list,
    z_max := PySem.W.mg_none_of X G z_max,
    z_min := PySem.W.mg_none_of X G z_min,
    z_range := PySem.W.mg_none_of X G z_range,
    z_repr := PySem.W.mg_none_of X G z_repr,
    z_sum := PySem.W.mg_none_of X G z_sum,
    z_tuple := PySem.W.mg_none_of X G z_tuple,
    c_LADDER_MOST := PySem.W.mg_of X G c_LADDER_MOST,
    c_TOLD_LADDER_MOST := PySem.W.mg_of X G c_TOLD_LADDER_MOST,
    c_COUNT_LADDER_MOST := PySem.W.mg_of X G c_COUNT_LADDER_MOST,
    kb1_ends_words_end_told_split := Jv.kbK (K := K) (D := qk_told_split) [] Jv.hms0 (fun us ws h1 h2 => match us, h1, ws, h2 with | [_], _, [_, _, _], _ => rfl) fun r1 r2 => (Vals.append r1 (.cons (Jv.vals_getD r2 0) (.cons (Jv.vals_getD r2 1) (.cons (Jv.vals_getD r2 2) .nil)))),
    kb1_end_told_within := Jv.kbK (K := K) (D := qk_told_within) [("ends", .none), ("words", .none)] (Jv.hmsC kw0_told_within (Jv.hmsC kw1_told_within Jv.hms0)) (fun us ws h1 h2 => match us, h1, ws, h2 with | [_], _, [_], _ => ⟨_, _, _, _, _, _, rfl, rfl, ⟨_, _, _, _, _, _, rfl, rfl, rfl⟩⟩) fun r1 r2 => (Vals.append r1 (.cons (rfl) (.cons (rfl) (.cons (Jv.vals_getD r2 0) .nil)))),
    kb1_ends_told_within := Jv.kbK (K := K) (D := qk_told_within) [("words", .none), ("end", .int (0) qkt2_told_within)] (Jv.hmsC kw1_told_within (Jv.hmsC kw2_told_within Jv.hms0)) (fun us ws h1 h2 => match us, h1, ws, h2 with | [_], _, [_], _ => ⟨_, _, _, _, _, _, rfl, rfl, ⟨_, _, _, _, _, _, rfl, rfl, rfl⟩⟩) fun r1 r2 => (Vals.append r1 (.cons (Jv.vals_getD r2 0) (.cons (rfl) (.cons (⟨_, rfl⟩) .nil)))),
    kb1_ends_words_told_within := Jv.kbK (K := K) (D := qk_told_within) [("end", .int (0) qkt2_told_within)] (Jv.hmsC kw2_told_within Jv.hms0) (fun us ws h1 h2 => match us, h1, ws, h2 with | [_], _, [_, _], _ => ⟨_, _, _, _, _, _, rfl, rfl, rfl⟩) fun r1 r2 => (Vals.append r1 (.cons (Jv.vals_getD r2 0) (.cons (Jv.vals_getD r2 1) (.cons (⟨_, rfl⟩) .nil)))),
    kb1_ends_words_end_told_within := Jv.kbK (K := K) (D := qk_told_within) [] Jv.hms0 (fun us ws h1 h2 => match us, h1, ws, h2 with | [_], _, [_, _, _], _ => rfl) fun r1 r2 => (Vals.append r1 (.cons (Jv.vals_getD r2 0) (.cons (Jv.vals_getD r2 1) (.cons (Jv.vals_getD r2 2) .nil)))),
    kb1_words_ends_told_within := Jv.kbK (K := K) (D := qk_told_within) [("end", .int (0) qkt2_told_within)] (Jv.hmsC kw2_told_within Jv.hms0) (fun us ws h1 h2 => match us, h1, ws, h2 with | [_], _, [_, _], _ => ⟨_, _, _, _, _, _, rfl, rfl, rfl⟩) fun r1 r2 => (Vals.append r1 (.cons (Jv.vals_getD r2 1) (.cons (Jv.vals_getD r2 0) (.cons (⟨_, rfl⟩) .nil)))) }
  have LC : LawC K T cc_law := ⟨⟨_, _, _, _, _, _, _, _, rfl, l_law, c_law⟩⟩
  have tabP : h.get? P_law = some { cls := .none, data := .fields #[] } := own cc_law P_law _ _ _ _ _ _ l_law rfl rfl v_law v11_law
  have hdP : PySem.W.CodeHd h cc_law P_law := ⟨_, cvs_law, cf_law, cft_law, cg_law, cgt_law, ci_law, cx_law, ctt_law, X _ _ v_law, rfl, rfl, v11_law, w11_law, v18_law, v7_law, v9_law, v10_law, nPC_law⟩
  exact ⟨T.d_law, cc_law, P_law, sp_lawT K P_law, tabP, nP_law, hdP, fun s v => .of_eq rfl, fun H a ns hl hT hS => ⟨a, ns, rfl, hS, hl, hT, fun _ => rfl⟩, fun base _ _ TB => ok_law T O LC TB⟩
end K35
open PySem PySem.W PyProof.Rows
set_option maxHeartbeats 0 in
theorem PySem.Challenge.cw_risingcalls_k35_whole_counts_within_ends_holds : PySem.Challenge.rw_risingcalls_k35_whole_counts_within_ends.Holds := by
  w_on; o_law; k_head; (case hw => w_witness2)
  k_fill
  refine Jv.walkGT (l := PySem.Challenge.rw_risingcalls_k35_whole_counts_within_ends) (n := 63) (k := 8) (x := "_law_script") rfl (by decide) rfl ⟨rfl, by decide, by decide⟩ (by first | rfl | kernel_rfl) (fun w h Y => PySem.W.km_in_of Y) ?F (fun _ _ _ _ _ h => h)
  case F =>
    intro w mg fa h _ KX G hmg own
    refine' K35.all_mk KX G hmg own ?a_CallError ?a_BadLadder ?a_BadEnds ?a_BadEnd ?a_BadWords ?a_is_whole ?l_is_whole ?c_is_whole ?k_is_whole ?t_is_whole ?a_is_sequence ?l_is_sequence ?c_is_sequence ?k_is_sequence ?a_check_ladder ?l_check_ladder ?c_check_ladder ?k_check_ladder ?t_check_ladder ?a_allowed_ends ?l_allowed_ends ?c_allowed_ends ?k_allowed_ends ?a_words_left ?l_words_left ?c_words_left ?k_words_left ?a_counts_by_words ?l_counts_by_words ?c_counts_by_words ?k_counts_by_words ?a_split_at ?l_split_at ?c_split_at ?k_split_at ?a_told_split ?l_told_split ?c_told_split ?k_told_split ?kw0_told_split ?kw1_told_split ?kw2_told_split ?a_told_within ?l_told_within ?c_told_within ?k_told_within ?kw0_told_within ?kw1_told_within ?kw2_told_within ?a_told_count ?l_told_count ?c_told_count ?k_told_count ?a_Lmix ?l_Lmix ?c_Lmix ?k_Lmix ?a_Lhand ?l_Lhand ?c_Lhand ?k_Lhand ?a_Ldraw ?l_Ldraw ?c_Ldraw ?k_Ldraw ?a_Lis_number ?l_Lis_number ?c_Lis_number ?k_Lis_number ?a_Lnumbers ?l_Lnumbers ?c_Lnumbers ?k_Lnumbers ?a_Lsome_ends ?l_Lsome_ends ?c_Lsome_ends ?k_Lsome_ends ?a_Lsome_words ?l_Lsome_words ?c_Lsome_words ?k_Lsome_words ?a_Lallowed ?l_Lallowed ?c_Lallowed ?k_Lallowed ?a_Llevel ?l_Llevel ?c_Llevel ?k_Llevel ?a_Lfree ?l_Lfree ?c_Lfree ?k_Lfree ?a_Lcounts ?l_Lcounts ?c_Lcounts ?k_Lcounts ?a_Lsplit ?l_Lsplit ?c_Lsplit ?k_Lsplit ?a_Lodd_ladder ?l_Lodd_ladder ?c_Lodd_ladder ?k_Lodd_ladder ?a_Lodd_ends ?l_Lodd_ends ?c_Lodd_ends ?k_Lodd_ends ?a_Lodd_words ?l_Lodd_words ?c_Lodd_words ?k_Lodd_words ?a_Lrefused ?l_Lrefused ?c_Lrefused ?k_Lrefused ?a_Lat_door ?l_Lat_door ?c_Lat_door ?k_Lat_door ?a_Lis_told ?l_Lis_told ?c_Lis_told ?k_Lis_told ?a_Lis_asked ?l_Lis_asked ?c_Lis_asked ?k_Lis_asked ?a_Lsmall ?l_Lsmall ?c_Lsmall ?k_Lsmall ?a_law ?l_law ?c_law ?k_law ?k_CallError ?b_CallError ?t_CallError ?i_CallError ?s_CallError ?x_CallError ?k_BadLadder ?b_BadLadder ?t_BadLadder ?i_BadLadder ?s_BadLadder ?x_BadLadder ?u_BadEnds_BadLadder ?k_BadEnds ?b_BadEnds ?t_BadEnds ?i_BadEnds ?s_BadEnds ?x_BadEnds ?u_BadEnd_BadLadder ?u_BadEnd_BadEnds ?u_BadEnd_BadWords ?k_BadEnd ?b_BadEnd ?t_BadEnd ?i_BadEnd ?s_BadEnd ?x_BadEnd ?u_BadWords_BadLadder ?u_BadWords_BadEnds ?k_BadWords ?b_BadWords ?t_BadWords ?i_BadWords ?s_BadWords ?x_BadWords ?z_ValueError ?z_abs ?z_all ?z_bool ?z_enumerate ?z_int ?z_isinstance ?z_len ?z_list ?z_max ?z_min ?z_range ?z_repr ?z_sum ?z_tuple ?c_LADDER_MOST ?c_TOLD_LADDER_MOST ?c_COUNT_LADDER_MOST ?v_law ?v11_law ?w11_law ?v18_law ?v7_law ?v9_law ?v10_law ?nPC_law ?nP_law
    (case a_CallError => k_is)
    (case a_BadLadder => k_is)
    (case a_BadEnds => k_is)
    (case a_BadEnd => k_is)
    (case a_BadWords => k_is)
    (case a_is_whole => k_is)
    (case l_is_whole => k_is)
    (case c_is_whole => k_is)
    (case k_is_whole => k_is)
    (case t_is_whole => k_is)
    (case a_is_sequence => k_is)
    (case l_is_sequence => k_is)
    (case c_is_sequence => k_is)
    (case k_is_sequence => k_is)
    (case a_check_ladder => k_is)
    (case l_check_ladder => k_is)
    (case c_check_ladder => k_is)
    (case k_check_ladder => k_is)
    (case t_check_ladder => k_is)
    (case a_allowed_ends => k_is)
    (case l_allowed_ends => k_is)
    (case c_allowed_ends => k_is)
    (case k_allowed_ends => k_is)
    (case a_words_left => k_is)
    (case l_words_left => k_is)
    (case c_words_left => k_is)
    (case k_words_left => k_is)
    (case a_counts_by_words => k_is)
    (case l_counts_by_words => k_is)
    (case c_counts_by_words => k_is)
    (case k_counts_by_words => k_is)
    (case a_split_at => k_is)
    (case l_split_at => k_is)
    (case c_split_at => k_is)
    (case k_split_at => k_is)
    (case a_told_split => k_is)
    (case l_told_split => k_is)
    (case c_told_split => k_is)
    (case k_told_split => k_is)
    (case kw0_told_split => k_is)
    (case kw1_told_split => k_is)
    (case kw2_told_split => k_is)
    (case a_told_within => k_is)
    (case l_told_within => k_is)
    (case c_told_within => k_is)
    (case k_told_within => k_is)
    (case kw0_told_within => k_is)
    (case kw1_told_within => k_is)
    (case kw2_told_within => k_is)
    (case a_told_count => k_is)
    (case l_told_count => k_is)
    (case c_told_count => k_is)
    (case k_told_count => k_is)
    (case a_Lmix => k_is)
    (case l_Lmix => k_is)
    (case c_Lmix => k_is)
    (case k_Lmix => k_is)
    (case a_Lhand => k_is)
    (case l_Lhand => k_is)
    (case c_Lhand => k_is)
    (case k_Lhand => k_is)
    (case a_Ldraw => k_is)
    (case l_Ldraw => k_is)
    (case c_Ldraw => k_is)
    (case k_Ldraw => k_is)
    (case a_Lis_number => k_is)
    (case l_Lis_number => k_is)
    (case c_Lis_number => k_is)
    (case k_Lis_number => k_is)
    (case a_Lnumbers => k_is)
    (case l_Lnumbers => k_is)
    (case c_Lnumbers => k_is)
    (case k_Lnumbers => k_is)
    (case a_Lsome_ends => k_is)
    (case l_Lsome_ends => k_is)
    (case c_Lsome_ends => k_is)
    (case k_Lsome_ends => k_is)
    (case a_Lsome_words => k_is)
    (case l_Lsome_words => k_is)
    (case c_Lsome_words => k_is)
    (case k_Lsome_words => k_is)
    (case a_Lallowed => k_is)
    (case l_Lallowed => k_is)
    (case c_Lallowed => k_is)
    (case k_Lallowed => k_is)
    (case a_Llevel => k_is)
    (case l_Llevel => k_is)
    (case c_Llevel => k_is)
    (case k_Llevel => k_is)
    (case a_Lfree => k_is)
    (case l_Lfree => k_is)
    (case c_Lfree => k_is)
    (case k_Lfree => k_is)
    (case a_Lcounts => k_is)
    (case l_Lcounts => k_is)
    (case c_Lcounts => k_is)
    (case k_Lcounts => k_is)
    (case a_Lsplit => k_is)
    (case l_Lsplit => k_is)
    (case c_Lsplit => k_is)
    (case k_Lsplit => k_is)
    (case a_Lodd_ladder => k_is)
    (case l_Lodd_ladder => k_is)
    (case c_Lodd_ladder => k_is)
    (case k_Lodd_ladder => k_is)
    (case a_Lodd_ends => k_is)
    (case l_Lodd_ends => k_is)
    (case c_Lodd_ends => k_is)
    (case k_Lodd_ends => k_is)
    (case a_Lodd_words => k_is)
    (case l_Lodd_words => k_is)
    (case c_Lodd_words => k_is)
    (case k_Lodd_words => k_is)
    (case a_Lrefused => k_is)
    (case l_Lrefused => k_is)
    (case c_Lrefused => k_is)
    (case k_Lrefused => k_is)
    (case a_Lat_door => k_is)
    (case l_Lat_door => k_is)
    (case c_Lat_door => k_is)
    (case k_Lat_door => k_is)
    (case a_Lis_told => k_is)
    (case l_Lis_told => k_is)
    (case c_Lis_told => k_is)
    (case k_Lis_told => k_is)
    (case a_Lis_asked => k_is)
    (case l_Lis_asked => k_is)
    (case c_Lis_asked => k_is)
    (case k_Lis_asked => k_is)
    (case a_Lsmall => k_is)
    (case l_Lsmall => k_is)
    (case c_Lsmall => k_is)
    (case k_Lsmall => k_is)
    (case a_law => k_is)
    (case l_law => k_is)
    (case c_law => k_is)
    (case k_law => k_is)
    (case k_CallError => k_is)
    (case b_CallError => k_is)
    (case t_CallError => k_is)
    (case i_CallError => k_is)
    (case s_CallError => first | rfl | k_is)
    (case x_CallError => k_exc)
    (case k_BadLadder => k_is)
    (case b_BadLadder => k_is)
    (case t_BadLadder => k_is)
    (case i_BadLadder => k_is)
    (case s_BadLadder => first | rfl | k_is)
    (case x_BadLadder => k_exc)
    (case u_BadEnds_BadLadder => first | rfl | k_is)
    (case k_BadEnds => k_is)
    (case b_BadEnds => k_is)
    (case t_BadEnds => k_is)
    (case i_BadEnds => k_is)
    (case s_BadEnds => first | rfl | k_is)
    (case x_BadEnds => k_exc)
    (case u_BadEnd_BadLadder => first | rfl | k_is)
    (case u_BadEnd_BadEnds => first | rfl | k_is)
    (case u_BadEnd_BadWords => first | rfl | k_is)
    (case k_BadEnd => k_is)
    (case b_BadEnd => k_is)
    (case t_BadEnd => k_is)
    (case i_BadEnd => k_is)
    (case s_BadEnd => first | rfl | k_is)
    (case x_BadEnd => k_exc)
    (case u_BadWords_BadLadder => first | rfl | k_is)
    (case u_BadWords_BadEnds => first | rfl | k_is)
    (case k_BadWords => k_is)
    (case b_BadWords => k_is)
    (case t_BadWords => k_is)
    (case i_BadWords => k_is)
    (case s_BadWords => first | rfl | k_is)
    (case x_BadWords => k_exc)
    (case z_ValueError => k_is)
    (case z_abs => k_is)
    (case z_all => k_is)
    (case z_bool => k_is)
    (case z_enumerate => k_is)
    (case z_int => k_is)
    (case z_isinstance => k_is)
    (case z_len => k_is)
    (case z_list => k_is)
    (case z_max => k_is)
    (case z_min => k_is)
    (case z_range => k_is)
    (case z_repr => k_is)
    (case z_sum => k_is)
    (case z_tuple => k_is)
    (case c_LADDER_MOST => k_is)
    (case c_TOLD_LADDER_MOST => k_is)
    (case c_COUNT_LADDER_MOST => k_is)
    (case v_law => k_is)
    (case v11_law => rfl)
    (case w11_law => rfl)
    (case v18_law => rfl)
    (case v7_law => rfl)
    (case v9_law => rfl)
    (case v10_law => rfl)
    (case nPC_law => decide)
    (case nP_law => first | rfl | kernel_rfl)

