import PyProof.Rows.All
import Wide.All
import OpenK.AllK
import Wide.FinOn
import PyProof.EqAt
import PyProof.EqKinds
import PyProof.TupleCall
import HandS.ForMost
import HandS.ForExc
import HandS.Wide
import HandS.IsInst
import HandS.SortInts
import HandS.Strs
import HandS.SetFor
import HandS.Conv
import HandS.Small
import HandS.Defaults
import HandS.Walk
import HandS.Flow
import HandS.Codes
import HandS.ExcInit
import HandS.ExcField
import HandS.Style
import HandS.TryMany
import PySem.Challenge.RW_risingcalls_k07_whole_goals_read_exactly
import HandS.TupAny
import HandS.MakeKw
import HandS.Strs
import HandS.Text
import HandS.FStr
import HandS.NoneIn
import HandS.OwnEq
import HandS.IsInst
import KE.IntTextLaws
import KE.KExcIs
import PyProof.ReprRoads
import PyProof.ReprLen
set_option Elab.async false
set_option linter.all false
set_option maxRecDepth 100000
set_option maxHeartbeats 2000000

/-! ### my words for readings: one lemma a construct, by the head of the reading -/
namespace Jv
open PySem PySem.Spec PyProof.Rows L2
section
variable {K : PySem.W.Frag} {σ : L2.St} {H : Hp} {D : Ends} {t u : TS} {te ta tb tc : TE} {g : TG} {tt tu : TT} {tA : TA} {i : Nat} {v x y z : V} {Q : VK} {R : Bool → Hp → Prop}
theorem r_seq (h : t { D with nx := u D } σ H) : tSeq t u D σ H := h
theorem r_asg (h : te σ H fun x H1 => g x σ H1 D.nx) : tAsg te g D σ H := h
theorem r_gn {Q : L2.St → Hp → Prop} (h : Q (σ.set i (some v)) H) : gName i v σ H Q := h
theorem r_ret (h : te σ H D.rt) : tRet te D σ H := h
theorem r_retN (h : D.rt .non H) : tRetN D σ H := h
theorem r_drop (h : te σ H fun _ H1 => D.nx σ H1) : tDrop te D σ H := h
theorem r_if (h : tt σ H fun b H1 => if b = true then t D σ H1 else u D σ H1) : tIfS tt t u D σ H := h
theorem r_next (h : D.nx σ H) : tNext D σ H := h
theorem r_brk (h : D.bk σ H) : tBreak D σ H := h
theorem r_cont (h : D.ct σ H) : tCont D σ H := h
theorem r_var (h : σ[i]? = some (some v)) (q : Q v H) : tVar i σ H Q := ⟨v, h, q⟩
theorem r_c (q : Q v H) : tC v σ H Q := q
theorem r_op {r : R2} (h : ta σ H fun x H1 => tb σ H1 fun y H2 => r x y H2 Q) : tOp r ta tb σ H Q := h
theorem r_un {r : V → Hp → VK → Prop} (h : ta σ H fun x H1 => r x H1 Q) : tUn r ta σ H Q := h
theorem r_I {C : Int → Int → Prop} {f : Int → Int → V} {a b : Int} (c : C a b) (q : Q (f a b) H) : rI C f (.int a) (.int b) H Q := ⟨a, b, rfl, rfl, c, q⟩
theorem r_I0 {f : Int → Int → V} {a b : Int} (q : Q (f a b) H) : rI0 f (.int a) (.int b) H Q := ⟨a, b, rfl, rfl, q⟩
theorem r_U {f : Int → V} {a : Int} (q : Q (f a) H) : rU f (.int a) H Q := ⟨a, rfl, q⟩
theorem r_eq (s : scal x y = true) (q : Q (.bl (decide (x = y))) H) : rEq x y H Q := ⟨s, q⟩
theorem r_ne (s : scal x y = true) (q : Q (.bl (!decide (x = y))) H) : rNe x y H Q := ⟨s, q⟩
theorem r_test (h : te σ H fun x H1 => ∃ k, x = .bl k ∧ R k H1) : tTest te σ H R := h
theorem r_B (h : te σ H fun x H1 => ∃ k, x = .bl k ∧ R k H1) : tB te σ H R := h
theorem r_bl {b : Bool} {P : Bool → Prop} (q : P b) : ∃ k, V.bl b = .bl k ∧ P k := ⟨b, rfl, q⟩
theorem r_and (h : tt σ H fun c H1 => if c = true then tu σ H1 R else R false H1) : tAnd tt tu σ H R := h
theorem r_or (h : tt σ H fun c H1 => if c = true then R true H1 else tu σ H1 R) : tOr tt tu σ H R := h
theorem r_not (h : tt σ H fun c H1 => R (!c) H1) : tNot tt σ H R := h
theorem r_andV (h : ta σ H fun x H1 => ∃ c, x = .bl c ∧ if c = true then tb σ H1 Q else Q (.bl false) H1) : tAndV ta tb σ H Q := h
theorem r_orV (h : ta σ H fun x H1 => ∃ c, x = .bl c ∧ if c = true then Q (.bl true) H1 else tb σ H1 Q) : tOrV ta tb σ H Q := h
theorem r_notV (h : ta σ H fun x H1 => ∃ c, x = .bl c ∧ Q (.bl (!c)) H1) : tNotV ta σ H Q := h
theorem r_ife (h : tt σ H fun c H1 => if c = true then ta σ H1 Q else tb σ H1 Q) : tIf tt ta tb σ H Q := h
theorem r_chain {r r' : R2} (h : ta σ H fun x H1 => tb σ H1 fun y H2 => r x y H2 fun z H3 => ∃ k, z = .bl k ∧
  (if k = true then tc σ H3 fun w' H4 => r' y w' H4 Q else Q (.bl false) H3)) : tChain r r' ta tb tc σ H Q := h
theorem r_nil {P : List V → Hp → Prop} (q : P [] H) : tNil σ H P := q
theorem r_cons {P : List V → Hp → Prop} (h : ta σ H fun x H1 => tA σ H1 fun xs H2 => P (x :: xs) H2) : tCons ta tA σ H P := h
theorem r_tup (h : tA σ H fun xs H1 => xs.length ≤ sizeLine ∧ ∀ p, H1 p = none → Q (.ref p) (upd H1 p (.tup xs))) : tTup tA σ H Q := h
theorem r_lst (h : tA σ H fun xs H1 => xs.length ≤ sizeLine ∧ ∀ p, H1 p = none → Q (.ref p) (upd H1 p (.lst xs))) : tLst tA σ H Q := h
theorem r_new {n : Nat} {P : Prop} (h1 : n ≤ 1000) (q : P) : n ≤ sizeLine ∧ P := ⟨Nat.le_trans h1 (by decide), q⟩
theorem r_CB {r : List V → Hp → VK → Prop} (h : tA σ H fun vs H1 => r vs H1 Q) : tCB r tA σ H Q := h
theorem r_call {sp : Sp} {dvs : List V} {E : XK} (h : tA σ H fun vs H1 => sp (vs ++ dvs) H1 Q E) : tCall sp dvs E tA σ H Q := h
theorem r_callS {sp : Sp} {E : L2.St → XK} (h : tA σ H fun vs H1 => sp vs H1 Q (E σ)) : tCallS sp E tA σ H Q := h
theorem r_for {wi : TI} (h : wi σ H fun J H1 => ∃ W : Nat → Nat → L2.St → Hp → Prop, (∃ m, W 0 m σ H1) ∧ ∀ i m σ H, W i m σ H →
  (J.stop i H ∧ D.nx σ H) ∨ (J.go i H ∧ ∃ N : L2.St → Hp → Prop, (∀ σ' H', N σ' H' → ∃ m', m' < m ∧ W (i + 1) m' σ' H') ∧ ∀ x H', J.yld i H x H' → g x σ H' fun σ2 H2 => t { D with nx := N, ct := N, bk := D.nx } σ2 H2)) : tFor wi g t D σ H := h
theorem r_iR1 {P : It → Hp → Prop} (h : tA σ H fun vs H1 => ∃ j : Int, vs = [.int j] ∧ -(2 ^ 62) ≤ j ∧ j < 2 ^ 62 ∧ P (Itr 0 j.toNat) H1) : iRng1 tA σ H P := h
theorem r_iR2 {P : It → Hp → Prop} (h : tA σ H fun vs H1 => ∃ i j : Int, vs = [.int i, .int j] ∧ (-(2 ^ 62) ≤ i ∧ i < 2 ^ 62 ∧ -(2 ^ 62) ≤ j ∧ j < 2 ^ 62) ∧ P (Itr i (j - i).toNat) H1) : iRng2 tA σ H P := h
theorem r_sub {to ti : TE} {w : TSet} {Q : L2.St → Hp → Prop} (h : to σ H fun o H1 => ti σ H1 fun i H2 => w o i v H2 fun H3 => Q σ H3) : gSub to ti w v σ H Q := h
theorem r_ixL {p : Addr} {xs : List V} {k : Int} (h : SqL K H p xs) (e : atI xs k = some v) (q : Q v H) : rIxL K (.ref p) (.int k) H Q := ⟨p, xs, k, v, rfl, rfl, h, e, q⟩
theorem r_ixT {p : Addr} {xs : List V} {k : Int} (h : SqT K H p xs) (e : atI xs k = some v) (q : Q v H) : rIxT K (.ref p) (.int k) H Q := ⟨p, xs, k, v, rfl, rfl, h, e, q⟩
theorem r_setL {p : Addr} {xs : List V} {k : Int} {j : Nat} {P : Hp → Prop} (h : H p = some (.lst xs)) (e : ixN xs.length k = some j) (q : P (upd H p (.lst (xs.set j v)))) : rSetL (.ref p) (.int k) v H P := ⟨p, xs, k, j, rfl, rfl, h, e, q⟩
theorem r_true {A B : Prop} {c : Bool} (e : c = true) (h : A) : if c = true then A else B := by rw [if_pos e]; exact h
theorem r_false {A B : Prop} {c : Bool} (e : c = false) (h : B) : if c = true then A else B := by rw [e, if_neg Bool.false_ne_true]; exact h
theorem r_dec {A B p : Prop} {_ : Decidable p} (h1 : p → A) (h2 : ¬ p → B) : if decide p = true then A else B := by
  by_cases h : p
  · exact r_true (decide_eq_true h) (h1 h)
  · exact r_false (decide_eq_false h) (h2 h)
theorem r_ndec {A B p : Prop} {_ : Decidable p} (h1 : ¬ p → A) (h2 : p → B) : if (!decide p) = true then A else B := by
  by_cases h : p
  · exact r_false (by rw [decide_eq_true h]; rfl) (h2 h)
  · exact r_true (by rw [decide_eq_false h]; rfl) (h1 h)
theorem r_bool {A B : Prop} {c : Bool} (h1 : c = true → A) (h2 : c = false → B) : if c = true then A else B := by
  cases c
  · exact r_false rfl (h2 rfl)
  · exact r_true rfl (h1 rfl)
theorem r_int {a : Int} {P : Int → Prop} {P' : Bool → Prop} (q : P a) : (∃ i, [V.int a] = [.int i] ∧ P i) ∨ ∃ k, [V.int a] = [.bl k] ∧ P' k := .inl ⟨a, rfl, q⟩
theorem small_of {n : Nat} (h : n ≤ 1000) : n ≤ sizeLine := Nat.le_trans h (by decide)
theorem small_lt {n : Nat} (h : n < 1000) : n < sizeLine := Nat.lt_of_lt_of_le h (by decide)
/-- what stands ahead of a new object, stands behind it -/
theorem kp {a p : Addr} {o u : HO} (h : H a = some o) (n : H p = none) : upd H p u a = some o := by rw [upd_ne (ne_of_none h n)]; exact h
theorem kpO {a l : Addr} {o u : HO} (h : H a = some o) (n : a ≠ l) : upd H l u a = some o := by rw [upd_ne n]; exact h
theorem same_new {p : Addr} {u : HO} (n : H p = none) : Same H (upd H p u) := fun _ _ e => kp e n
theorem Same.sqT {H' : Hp} {a : Addr} {xs : List V} (e : Same H H') (h : SqT K H a xs) : SqT K H' a xs := by
  rcases h with (h | ⟨o, h⟩) | h
  · exact .inl (.inl (e _ _ h))
  · exact .inl (.inr ⟨o, e _ _ h⟩)
  · exact .inr h
end
end Jv

/-! ### rules that the layer lacks: set(x), sorted(x) of a list or a tuple of ints; X() of an own exception; what the top says of exceptions -/
namespace JvS
open PySem PySem.Spec PyProof.Rows L2 SrtO
section
variable {P : Program} {w : World} {A : Around} {E : Value → Shared → Prop} {s : Shared}
/-- the empty set that set() begins with -/
abbrev emptyS (w : World) : Obj := { cls := .type "set", dict := none, data := .set #[] 0 (.fresh 0 0 (!w.params.followText "set-order")) }
theorem set_listI {l : Addr} {items : Array Value} (ns : List Int) {Q : Value → Shared → Prop} (hh : A.handled = none) (hl : s.heap.IsList l items) (hv : IntsAre items.toList ns) (few : ns.length + 1 < scanBound)
    (h : ∀ (h' : Heap) (tk c : Nat), SetR w h' s.heap.objs.size (fun j => decide (j ∈ ns)) c → c ≤ ns.length → (∀ b o, s.heap.get? b = some o → h'.get? b = some o) → Q (.ref s.heap.objs.size) { s with heap := h', toks := tk }) :
    wpAny (model P w) A (call (.type "set") [.ref l]) Q E s := by
  have sz : items.size = ns.length := by simpa using IntsAre.length hv
  obtain ⟨cM, tM, eM⟩ := F.called_set.mro
  have e1 := F.called_set.made; have e2 := F.called_set.sub; have e3 := F.called_set.notType; have e4 := F.called_set.canCreate; have e5 := F.typeCall_set_1 (.ref l)
  refine wpAny_call (codeAny_of_tree (show wpAny _ _ (callAny (.type "set") _) _ _ _ from wpAny_pure ⟨Code.quiet_builtin _ (by decide +kernel), codeAny_builtin F.entry_type_call ?_⟩))
  rw [Around.under_plain (weight_type_call_type "set" [.ref l] []) rfl]
  repeat any_goals (first | wp_step | assumption)
  refine codeAny_mono (code_set_led1 (P := P) (.ref l) (E := E) (Q₁ := fun v s1 => v = .ref s.heap.objs.size ∧ s1 = { s with heap := s.heap.push (emptyS w) }) ⟨rfl, rfl⟩) fun r s1 hr => ?_
  cases r with
  | error e => exact hr
  | ok fl =>
    cases fl with
    | next => exact hr.elim
    | brk => exact hr.elim
    | cont => exact hr.elim
    | ret v =>
      obtain ⟨rfl, rfl⟩ := hr
      have atS : (s.heap.push (emptyS w)).get? s.heap.objs.size = some (emptyS w) := Heap.get?_push_size _ rfl
      have tyS : Shared.TypeIs { s with heap := s.heap.push (emptyS w) } (.ref s.heap.objs.size) "set" := ⟨_, atS, rfl⟩
      have e6 := F.called_set.init.lookup; have e7 := F.called_set.init.bind (.ref s.heap.objs.size)
      repeat any_goals (first | wp_step | assumption)
      refine codeAny_mono (codeAny_call_builtin (R := wants (fun r s2 => r = .none ∧ ∃ h' tk c, s2 = { s with heap := h', toks := tk } ∧ SetR w h' s.heap.objs.size (fun j => decide (j ∈ ns)) c ∧ c ≤ ns.length ∧
        ∀ b o, s.heap.get? b = some o → h'.get? b = some o) E) F.called_set.init.plain F.entry_set_init (check_set_init_1 tyS ?_)) fun r2 s2 hr2 => ?_
      · have old : ∀ b o, s.heap.get? b = some o → (s.heap.push (emptyS w)).get? b = some o := fun b o q => Heap.get?_push_of_some _ q
        have lS : l < s.heap.objs.size := by obtain ⟨o, q, _⟩ := hl; exact Heap.lt_size q
        obtain ⟨⟨oc, od, dt, sl⟩, ol, q1, n1, q2⟩ := hl
        simp only at q1 q2; subst q1 q2
        have ol2 := old _ _ ol
        have isl : (s.heap.push (emptyS w)).IsList l items := ⟨_, ol2, rfl, n1, rfl⟩
        have b1 := F.sub_list_set; have b2 := F.sub_list_frozenset; have b3 : (Value.type "list" == Value.type "dict") = false := by decide
        unfold Builtin.«set.__init__» noKeywords Builtin.Frozenset.updateFrom
        generalize walkIt : pyIter = PI
        wp_walk
        subst walkIt
        refine wpAny_pyIter_list isl (wpAny_bind (wpAny_runValue ?_))
        have more : (s.heap.push (emptyS w)).objs.size = s.heap.objs.size + 1 := Heap.size_push ..
        have hh3 : A.in1.in1.in1.handled = none := by simp [hh]
        have lI : l ≠ (s.heap.push (emptyS w)).objs.size := by rw [more]; exact Nat.ne_of_lt (Nat.lt_succ_of_lt lS)
        have nS : s.heap.objs.size ∉ [(s.heap.push (emptyS w)).objs.size, l] := by
          rw [more]; simp only [List.mem_cons, List.not_mem_nil, or_false, not_or]
          exact ⟨Nat.ne_of_lt (Nat.lt_succ_self _), Nat.ne_of_gt lS⟩
        refine set_update_ints ((Walks.list hh3 _ l lI items).toS) s.heap.objs.size nS ns sz few (fun i v q => ?_) (items.size - 0) 0 _ (by omega) (Nat.zero_le _) ⟨⟨_, Heap.get?_push_size _ rfl, rfl, rfl⟩, isl.push _⟩ ⟨0, Nat.le_refl 0, setR_new_at (Heap.get?_push_of_some _ atS)⟩ fun s3 c hm hc hS => ?_
        · have hi : i < ns.length := by rw [← sz]; exact (Array.getElem?_eq_some_iff.mp q).1
          obtain ⟨t, e⟩ := PyProof.Rows.IntsAre.int_at hv i v (by rw [Array.getElem?_toList]; exact q)
          exact ⟨ns[i], t, List.getElem?_eq_getElem hi, by rw [e, List.getD_eq_getElem?_getD, List.getElem?_eq_getElem hi]; rfl⟩
        · obtain ⟨h3, g3, d3, t3, o3⟩ := s3
          obtain rfl : g3 = s.gens := hm.gens
          obtain rfl : d3 = s.drawn := hm.drawn
          obtain rfl : o3 = s.os := hm.os
          rw [sz] at hc
          refine wpAny_pure (show wpAny _ _ (ret Value.none) _ _ _ from wpAny_pure ⟨rfl, h3, t3, c, rfl, hS, hc, fun b o e => ?_⟩)
          have lb : b < s.heap.objs.size := Heap.lt_size e
          exact hm.heap b o (by
            rw [more]; simp only [List.mem_cons, List.not_mem_nil, or_false, not_or]
            exact ⟨Nat.ne_of_lt lb, Nat.ne_of_lt (Nat.lt_succ_of_lt lb)⟩) (Heap.get?_push_of_some _ (old _ _ e))
      · cases r2 with
        | error e => exact hr2
        | ok f2 =>
          cases f2 with
          | next => exact hr2.elim
          | brk => exact hr2.elim
          | cont => exact hr2.elim
          | ret r =>
            obtain ⟨rfl, h', tk, c, rfl, hS, hc, keep⟩ := hr2
            repeat any_goals (first | wp_step | assumption)
            exact h _ _ _ hS hc keep
end
end JvS
namespace Jv
open PySem PySem.Spec PyProof.Rows L2
section
variable {X : Cx}
/-- set(x), x a list or a tuple of ints -/
def rSetI (K : PySem.W.Frag) (w : World) : List V → Hp → VK → Prop := fun xs H Q => ∃ (l : Addr) (ns : List Int), xs = [.ref l] ∧ (SqL K H l (ns.map V.int) ∨ SqT K H l (ns.map V.int)) ∧ ns.length ≤ 1000 ∧
  ∀ p c, H p = none → c ≤ ns.length → Q (.ref p) (upd H p (SetO w p (fun j => decide (j ∈ ns)) c))
theorem cr_setI (hc : X.calm = true) : CallR X (.type "set") (rSetI X.K X.w) := by
  intro pins s σ H xs us Q I r h
  obtain ⟨l, ns, rfl, hs, few, q⟩ := h
  rw [Vals.ref1 r]
  have fin : ∀ (h' : Heap) (tk c : Nat), SetR X.w h' s.heap.objs.size (fun j => decide (j ∈ ns)) c → c ≤ ns.length → (∀ b o, s.heap.get? b = some o → h'.get? b = some o) →
      EP X pins σ Q (.ref s.heap.objs.size) { s with heap := h', toks := tk } := fun h' tk c R hcn keep =>
    ⟨.ref s.heap.objs.size, upd H s.heap.objs.size (SetO X.w s.heap.objs.size (fun j => decide (j ∈ ns)) c), I.laid (t' := tk) keep (Nat.le_refl _) (setO_new R), rfl, q _ c (I.hok.fresh (Nat.le_refl _)) hcn⟩
  rcases hs with hs | hs
  · obtain ⟨its, rv, hl, hz⟩ := I.list hs
    exact JvS.set_listI ns (I.ok.hd hc) hl.isList (by simpa using ints_of_vals rv) (by unfold scanBound; omega) fin
  · obtain ⟨its, rv, ht, hz⟩ := I.tuple hs
    exact call_set_tupI ns (I.ok.hd hc) (show s.heap.IsTuple l its.toArray from ht) (by simpa using ints_of_vals rv) (by unfold scanBound; omega) fin
/-- either of two rules for a call -/
theorem crOr {f : Value} {r r' : List V → Hp → VK → Prop} (h : CallR X f r) (h' : CallR X f r') : CallR X f (fun xs H Q => r xs H Q ∨ r' xs H Q) := fun pins s σ H xs us Q I rv q =>
  q.elim (fun q => h pins s σ H xs us Q I rv q) fun q => h' pins s σ H xs us Q I rv q
end
/-- an own error class without an __init__ of its own -/
structure ExcP (K : PySem.W.Frag) (C : Addr) : Prop where
  x : PySem.W.excIn K C [.type "ValueError", .type "Exception", .type "BaseException", .type "object"] "ValueError.__new__" = true
  k : PySem.W.keepIn K (.ref C) = true
  b : PySem.W.subIn K (.ref C) (.type "BaseException") = some true
  t : PySem.W.typeIn K (.ref C) = some (.type "type")
  i : PySem.W.isClsIn K C = true
  s : PySem.W.subIn K (.ref C) (.ref C) = some true
theorem exm_of {K : PySem.W.Frag} {C : Addr} (b : PySem.W.subIn K (.ref C) (.type "BaseException") = some true) (i : PySem.W.isClsIn K C = true) (t : PySem.W.typeIn K (.ref C) = some (.type "type")) (s : PySem.W.subIn K (.ref C) (.ref C) = some true) :
    PySem.W.exmOne K (.ref C) (.ref C) = some true := by
  have i' : (PySem.W.clsIn K C).isSome = true := i
  unfold PySem.W.exmOne PySem.W.kitCls
  simp [b, i', t, s]
theorem ExcP.e {K : PySem.W.Frag} {C : Addr} (h : ExcP K C) : PySem.W.exmOne K (.ref C) (.ref C) = some true := exm_of h.b h.i h.t h.s
theorem ExcP.raises {X : Cx} {C : Addr} (h : ExcP X.K C) : Raises X (.ref C) := raises_own h.b h.t
/-- .. with one, at fI -/
structure ExcI (K : PySem.W.Frag) (C fI : Addr) : Prop where
  o : OexC K C
  n : PySem.W.findIn K (.ref C) "__init__" = some (some (.ref fI))
  y : PySem.W.typeIn K (.ref fI) = some (.type "function")
  i : PySem.W.isClsIn K C = true
  s : PySem.W.subIn K (.ref C) (.ref C) = some true
  f : XfC K C
theorem ExcI.e {K : PySem.W.Frag} {C fI : Addr} (h : ExcI K C fI) : PySem.W.exmOne K (.ref C) (.ref C) = some true := exm_of h.o.exC h.i h.o.tyC h.s
section
variable {X : Cx}
/-- X() -/
theorem pmk_own0 {C : Addr} {bmB : List Value} {B newId initId : String} {x : Str} {p pos : Pos} (F : ExcBaseFacts B newId initId bmB) (q : PySem.W.excIn X.K C bmB newId = true) (gC : X.mg x = some (.ref C))
    (kC : PySem.W.keepIn X.K (.ref C) = true) (r : Raises X (.ref C)) (hg : Gl X x) (hdb : (x == ("__debug__" : Str)) = false := by decide) : PMk X (.Call (.Name x p) [] [] pos) (fun _ H Q => Q (.ref C) none H) := by
  intro pins s σ H Q I h
  refine wpAny_Call_Name_kw (ld_glob I hg gC (PySem.W.callWith_K0 I.kIn kC ?_) hdb)
  obtain ⟨bm, N, nm, qn, bs, hdct, sn, sub, ab, col, dd, k0, k1, k2, k3, k5, mN, hC, hN, hni, T⟩ := exc_obj I.kIn q
  exact wpAny_call_exc_subT F T hC hN hni (fun h' e hm => mk_of I hm r h (I.hok.gone hm.new)) (Nat.zero_le _)
end
end Jv

/-! ### binding with defaults -/
namespace Jv
open PySem PySem.Spec PyProof.Rows L2
section
variable {K : PySem.W.Frag} {fd : FuncData} {ps : List Str} {T : Addr} {o : Obj} {its : Array Value} {n : Nat}
theorem bindsD {ds : List Value} {m : Nat} (l : K.lookup T = some o) (hd : o.data = .seq its n) (hm : m + ds.length = ps.length)
    (h : ∀ us : List Value, us.length = m → ∃ k, bindArgs fd ⟨us, []⟩ = seqItems? (.ref T) >>= k ∧ k (some its) = pure (ps.zip (us ++ ds))) : Binds K fd ps ds := fun s us X hl => by
  obtain ⟨k, e1, e2⟩ := h us (by rw [List.length_append] at hl; omega)
  refine BindsTo.of_looks fun M => ?_
  rw [e1]
  exact looks_items X l hd (.of_pure e2)
theorem kbD {m : Nat} {ks : List Str} {g : List Value → List Value → List Value} {gV : List V → List V → List V} (l : K.lookup T = some o) (hd : o.data = .seq its n)
    (h : ∀ us ws : List Value, us.length = m → ws.length = ks.length → ∃ k, bindArgs fd ⟨us, ks.zip ws⟩ = seqItems? (.ref T) >>= k ∧ k (some its) = pure (ps.zip (g us ws)))
    (rel : ∀ {vs : List V} {us : List Value} {zs : List V} {ws : List Value}, Vals vs us → Vals zs ws → Vals (gV vs zs) (g us ws)) : KBn K fd ps m ks g gV := by
  refine ⟨fun s us ws X h1 h2 => ?_, rel⟩
  obtain ⟨k, e1, e2⟩ := h us ws h1 h2
  refine BindsTo.of_looks fun M => ?_
  rw [e1]
  exact looks_items X l hd (.of_pure e2)
end
end Jv
namespace Jv
open PySem PySem.Spec PyProof.Rows L2
section
variable {K : PySem.W.Frag} {σ : L2.St} {H : Hp} {D : Ends} {t u : TS} {te ta tb tc : TE} {g : TG} {tt tu : TT} {tA : TA} {i : Nat} {v x y z : V} {Q : VK} {R : Bool → Hp → Prop}
theorem r_gtup {T : Addr} {xs : List V} {n : Nat} {gs : TGs} {Q : L2.St → Hp → Prop} (h : SqT K H T xs) (hl : xs.length = n) (q : gs xs σ H Q) : gTup K n gs (.ref T) σ H Q := ⟨T, xs, rfl, h, hl, q⟩
theorem r_gcons {gs : TGs} {xs : List V} {Q : L2.St → Hp → Prop} (q : g v σ H fun σ' H' => gs xs σ' H' Q) : gCons g gs (v :: xs) σ H Q := ⟨v, xs, rfl, q⟩
theorem r_gnil {Q : L2.St → Hp → Prop} (q : Q σ H) : gNil [] σ H Q := ⟨rfl, q⟩
theorem r_lc {wi : TI} {vs : List Nat} (h : wi σ H fun J H1 => ∀ D, H1 D = none → ∃ W : Nat → Nat → Hp → Prop, (∃ m, W 0 m (upd H1 D (.lst []))) ∧ ∀ i m H, W i m H →
  (J.stop i H ∧ Q (.ref D) H) ∨ (J.go i H ∧ ∃ Nx : Hp → Prop, (∀ H', Nx H' → ∃ m', m' < m ∧ W (i + 1) m' H') ∧ ∀ x H', J.yld i H x H' → g x (wipe σ vs) H' fun σ2 H2 => wipe σ2 vs = wipe σ vs ∧ tt σ2 H2 fun b H3 =>
    if b = true then te σ2 H3 fun y H4 => ∃ acc, H4 D = some (.lst acc) ∧ acc.length < sizeLine ∧ Nx (upd H4 D (.lst (acc ++ [y]))) else Nx H3)) : tLc wi g tt te vs σ H Q := h
theorem r_iE {P : It → Hp → Prop} {a : Addr} {xs : List V} (h : SqL K H a xs) (q : P (Ite K a) H) : ∃ b ys, [V.ref a] = [.ref b] ∧ SqL K H b ys ∧ P (Ite K b) H := ⟨a, xs, rfl, h, q⟩
theorem r_iEn {P : It → Hp → Prop} (h : tA σ H fun vs H1 => ∃ b ys, vs = [.ref b] ∧ SqL K H1 b ys ∧ P (Ite K b) H1) : iEnum K tA σ H P := h
theorem r_iL {P : It → Hp → Prop} (h : te σ H fun x H1 => ∃ a, x = .ref a ∧ (∃ xs, SqL K H1 a xs) ∧ P (Itl K a) H1) : iList K te σ H P := h
theorem r_iT {P : It → Hp → Prop} (h : te σ H fun x H1 => ∃ a, x = .ref a ∧ (∃ xs, SqT K H1 a xs) ∧ P (Itt K a) H1) : iTup K te σ H P := h
theorem r_yes (q : R true H) : tYes σ H R := q
theorem r_abs {a : Int} {P : Int → Prop} (q : P (if a < 0 then -a else a)) : ∃ i, [V.int a] = [.int i] ∧ P (if i < 0 then -i else i) := ⟨a, rfl, q⟩
theorem r_ift {A B : Prop} (h : A) : if true = true then A else B := by rw [if_pos rfl]; exact h
theorem r_iff {A B : Prop} (h : B) : if false = true then A else B := by rw [if_neg Bool.false_ne_true]; exact h
end
end Jv
namespace Jv
open PySem PySem.Spec PyProof.Rows L2
section
variable {K : PySem.W.Frag} {H H' : Hp} {a p l : Addr} {xs : List V} {o u : HO}
theorem sqL_new (h : SqL K H a xs) (n : H p = none) : SqL K (upd H p u) a xs := (same_new n).seq h
theorem sqT_new (h : SqT K H a xs) (n : H p = none) : SqT K (upd H p u) a xs := Jv.Same.sqT (same_new n) h
theorem sqL_at (h : H a = some (.lst xs)) : SqL K H a xs := .inl (.inl h)
theorem sqT_at (h : H a = some (.tup xs)) : SqT K H a xs := .inl (.inl h)
theorem map_at {f : Int → V} {ns : List Int} {i : Nat} {x : V} (h : (ns.map f)[i]? = some x) : ∃ z, ns[i]? = some z ∧ x = f z := by
  rw [List.getElem?_map] at h
  cases e : ns[i]? with
  | none => rw [e] at h; cases h
  | some z => rw [e] at h; exact ⟨z, rfl, (Option.some.inj h).symm⟩
end
end Jv
namespace Jv
open PySem PySem.Spec PyProof.Rows L2
theorem r_wipe {σ1 σ2 : L2.St} {vs : List Nat} {P : Prop} (e : wipe σ1 vs = wipe σ2 vs) (q : P) : wipe σ1 vs = wipe σ2 vs ∧ P := ⟨e, q⟩
end Jv
namespace Jv
open PySem PySem.Spec PyProof.Rows L2
section
variable {K : PySem.W.Frag} {H : Hp}
def rLenK (K : PySem.W.Frag) : List V → Hp → VK → Prop := fun xs H Q => ∃ x n, xs = [x] ∧ LenV K x H n ∧ Q (.int n) H
theorem cr_len {X : Cx} : CallR X (.builtin "len") (rLenK X.K) := call_len
def rAbs : List V → Hp → VK → Prop := fun xs H Q => ∃ i, xs = [.int i] ∧ Q (.int (if i < 0 then -i else i)) H
theorem cr_abs {X : Cx} : CallR X (.builtin "abs") rAbs := call_abs
def rMin2 : List V → Hp → VK → Prop := fun xs H Q => ∃ i j, xs = [.int i, .int j] ∧ Q (.int (if j < i then j else i)) H
def rMax2 : List V → Hp → VK → Prop := fun xs H Q => ∃ i j, xs = [.int i, .int j] ∧ Q (.int (if j > i then j else i)) H
def rInt : List V → Hp → VK → Prop := fun xs H Q => (∃ i, xs = [.int i] ∧ Q (.int i) H) ∨ ∃ k, xs = [.bl k] ∧ Q (.int (if k then 1 else 0)) H
theorem cr_int {X : Cx} : CallR X (.type "int") rInt := call_int1
def rListOf (K : PySem.W.Frag) : List V → Hp → VK → Prop := fun xs H Q => ∃ p ys, xs = [.ref p] ∧ (SqL K H p ys ∨ SqT K H p ys) ∧ ∀ l, H l = none → Q (.ref l) (upd H l (.lst ys))
def rTupOf (K : PySem.W.Frag) : List V → Hp → VK → Prop := fun xs H Q => ∃ p ys, xs = [.ref p] ∧ ((SqL K H p ys ∧ ∀ l, H l = none → Q (.ref l) (upd H l (.tup ys))) ∨ (SqT K H p ys ∧ Q (.ref p) H))
section
variable {Q : VK}
theorem r_len {p : Addr} {xs : List V} (h : SqL K H p xs ∨ SqT K H p xs) (q : Q (.int xs.length) H) : rLenK K [V.ref p] H Q := ⟨_, xs.length, rfl, by
  rcases h with h | h
  · exact .inl ⟨xs, h, rfl⟩
  · exact .inr ⟨xs, h, rfl⟩, q⟩
theorem r_absN {a : Int} (q : Q (.int (if a < 0 then -a else a)) H) : rAbs [.int a] H Q := ⟨a, rfl, q⟩
theorem r_min {a b : Int} (q : Q (.int (if b < a then b else a)) H) : rMin2 [.int a, .int b] H Q := ⟨a, b, rfl, q⟩
theorem r_max {a b : Int} (q : Q (.int (if b > a then b else a)) H) : rMax2 [.int a, .int b] H Q := ⟨a, b, rfl, q⟩
theorem r_intN {a : Int} (q : Q (.int a) H) : rInt [.int a] H Q := .inl ⟨a, rfl, q⟩
theorem r_listOf {p : Addr} {ys : List V} (h : SqL K H p ys ∨ SqT K H p ys) (q : ∀ l, H l = none → Q (.ref l) (upd H l (.lst ys))) : rListOf K [.ref p] H Q := ⟨p, ys, rfl, h, q⟩
theorem r_tupOfL {p : Addr} {ys : List V} (h : SqL K H p ys) (q : ∀ l, H l = none → Q (.ref l) (upd H l (.tup ys))) : rTupOf K [.ref p] H Q := ⟨p, ys, rfl, .inl ⟨h, q⟩⟩
theorem r_tupOfT {p : Addr} {ys : List V} (h : SqT K H p ys) (q : Q (.ref p) H) : rTupOf K [.ref p] H Q := ⟨p, ys, rfl, .inr ⟨h, q⟩⟩
end
theorem r_decI {A B : Prop} {a b : Int} (h1 : a = b → A) (h2 : a ≠ b → B) : if decide (V.int a = V.int b) = true then A else B := r_dec (fun h => h1 (V.int.inj h)) fun h => h2 fun e => h (by rw [e])
theorem r_ndecI {A B : Prop} {a b : Int} (h1 : a ≠ b → A) (h2 : a = b → B) : if (!decide (V.int a = V.int b)) = true then A else B := r_ndec (fun h => h1 fun e => h (by rw [e])) fun h => h2 (V.int.inj h)
theorem ixN_of {n j : Nat} (hj : j < n) : ixN n (j : Int) = some j := by
  unfold ixN
  rw [if_pos (by omega), if_pos (by omega)]
  simp
end
end Jv
namespace Jv
open PySem PySem.Spec PyProof.Rows L2
theorem at_i {xs : List V} {k : Int} {v : V} (h0 : 0 ≤ k) (h : xs[k.toNat]? = some v) : atI xs k = some v := by
  rw [show k = ((k.toNat : Nat) : Int) by omega]
  exact atI_nat h
theorem map_get {f : Int → V} {ns : List Int} {i : Nat} (h : i < ns.length) : (ns.map f)[i]? = some (f ns[i]) := by
  rw [List.getElem?_map, List.getElem?_eq_getElem h]; rfl
end Jv

/-! ### things of any sort -/
namespace Jv
open PySem PySem.Spec PyProof.Rows L2
/-- a thing that a law hands in: a scalar, or a list, a tuple, a dict that stands -/
def Th (H : Hp) : V → Prop
  | .non => True
  | .bl _ => True
  | .int _ => True
  | .str _ => True
  | .ref a => (∃ xs, H a = some (.lst xs)) ∨ (∃ xs, H a = some (.tup xs)) ∨ ∃ kvs, H a = some (.dK kvs)
  | _ => False
def isB : V → Bool
  | .bl _ => true
  | _ => false
def isI : V → Bool
  | .int _ => true
  | _ => false
/-- a list or a tuple of xs -/
def Sq (H : Hp) (x : V) (xs : List V) : Prop := ∃ a, x = .ref a ∧ (H a = some (.lst xs) ∨ H a = some (.tup xs))
def sqOf (H : Hp) : V → Option (List V)
  | .ref a => match H a with
    | some (.lst xs) => some xs
    | some (.tup xs) => some xs
    | _ => none
  | _ => none
theorem sq_some {H : Hp} {x : V} {xs : List V} (h : sqOf H x = some xs) : Sq H x xs := by
  unfold sqOf at h
  split at h
  · rename_i a
    split at h
    · rename_i ys e; cases h; exact ⟨a, rfl, .inl e⟩
    · rename_i ys e; cases h; exact ⟨a, rfl, .inr e⟩
    · cases h
  · cases h
theorem Sq.of {H : Hp} {x : V} {xs : List V} (h : Sq H x xs) : sqOf H x = some xs := by
  obtain ⟨a, rfl, h | h⟩ := h <;> simp [sqOf, h]
theorem Sq.same {H H' : Hp} {x : V} {xs : List V} (h : Sq H x xs) (s : Same H H') : Sq H' x xs := by
  obtain ⟨a, rfl, h | h⟩ := h
  · exact ⟨a, rfl, .inl (s _ _ h)⟩
  · exact ⟨a, rfl, .inr (s _ _ h)⟩
theorem Sq.th {H : Hp} {x : V} {xs : List V} (h : Sq H x xs) : Th H x := by
  obtain ⟨a, rfl, h | h⟩ := h
  · exact .inl ⟨_, h⟩
  · exact .inr (.inl ⟨_, h⟩)
theorem Th.same {H H' : Hp} {x : V} (h : Th H x) (s : Same H H') : Th H' x := by
  cases x with
  | ref a =>
    rcases h with ⟨xs, h⟩ | ⟨xs, h⟩ | ⟨xs, h⟩
    · exact .inl ⟨xs, s _ _ h⟩
    · exact .inr (.inl ⟨xs, s _ _ h⟩)
    · exact .inr (.inr ⟨xs, s _ _ h⟩)
  | _ => exact h
theorem sqOf_same {H H' : Hp} {x : V} (h : Th H x) (s : Same H H') : sqOf H' x = sqOf H x := by
  cases x with
  | ref a => rcases h with ⟨xs, h⟩ | ⟨xs, h⟩ | ⟨xs, h⟩ <;> simp [sqOf, h, s _ _ h]
  | _ => rfl
section
variable {K : PySem.W.Frag} {H : Hp} {x : V} {Q : VK}
theorem th_ty (h : Th H x) : ∃ t, TyX K H x (.type t) ∧ kitB t "bool" = some (isB x) ∧ kitB t "int" = some (isB x || isI x) ∧ kitB t "list" = some (t == "list") ∧ kitB t "tuple" = some (t == "tuple") ∧ ((t == "list") || (t == "tuple")) = (sqOf H x).isSome := by
  cases x with
  | non => exact ⟨_, .base .non, (by decide +kernel : kitB "NoneType" "bool" = some false), (by decide +kernel : kitB "NoneType" "int" = some false), by decide +kernel, by decide +kernel, (by decide +kernel : (("NoneType" == "list") || ("NoneType" == "tuple")) = false)⟩
  | bl b => exact ⟨_, .base (.bl b), (by decide +kernel : kitB "bool" "bool" = some true), (by decide +kernel : kitB "bool" "int" = some true), by decide +kernel, by decide +kernel, (by decide +kernel : (("bool" == "list") || ("bool" == "tuple")) = false)⟩
  | int i => exact ⟨_, .base (.int i), (by decide +kernel : kitB "int" "bool" = some false), (by decide +kernel : kitB "int" "int" = some true), by decide +kernel, by decide +kernel, (by decide +kernel : (("int" == "list") || ("int" == "tuple")) = false)⟩
  | str i => exact ⟨_, .base (.str i), (by decide +kernel : kitB "str" "bool" = some false), (by decide +kernel : kitB "str" "int" = some false), by decide +kernel, by decide +kernel, (by decide +kernel : (("str" == "list") || ("str" == "tuple")) = false)⟩
  | ref a =>
    rcases h with ⟨xs, h⟩ | ⟨xs, h⟩ | ⟨xs, h⟩
    · exact ⟨_, .base (.lst h), (by decide +kernel : kitB "list" "bool" = some false), (by decide +kernel : kitB "list" "int" = some false), by decide +kernel, by decide +kernel, by simp [sqOf, h]⟩
    · exact ⟨_, .base (.tup h), (by decide +kernel : kitB "tuple" "bool" = some false), (by decide +kernel : kitB "tuple" "int" = some false), by decide +kernel, by decide +kernel, by simp [sqOf, h]⟩
    · exact ⟨_, .base (.dK h), (by decide +kernel : kitB "dict" "bool" = some false), (by decide +kernel : kitB "dict" "int" = some false), by decide +kernel, by decide +kernel, by simp [sqOf, h]⟩
  | byt _ => exact h.elim
  | flt _ => exact h.elim
  | ty _ => exact h.elim
theorem r_isB (h : Th H x) (q : Q (.bl (isB x)) H) : rIsi K [x, .ty "bool"] H Q := by
  obtain ⟨t, h1, h2, _⟩ := th_ty (K := K) h
  exact ⟨x, _, _, _, _, rfl, .ty _, h1, kit_ty h2, q⟩
theorem r_isI (h : Th H x) (q : Q (.bl (isB x || isI x)) H) : rIsi K [x, .ty "int"] H Q := by
  obtain ⟨t, h1, _, h2, _⟩ := th_ty (K := K) h
  exact ⟨x, _, _, _, _, rfl, .ty _, h1, kit_ty h2, q⟩
theorem r_isS {p : Addr} (hp : H p = some (.tup [.ty "list", .ty "tuple"])) (h : Th H x) (q : Q (.bl (sqOf H x).isSome) H) : rIsiT K [x, .ref p] H Q := by
  obtain ⟨t, h1, _, _, h2, h3, h4⟩ := th_ty (K := K) h
  refine ⟨x, p, _, _, _, (sqOf H x).isSome, rfl, hp, .cons (.ty _) (.cons (.ty _) .nil), h1, ?_, q⟩
  refine kitAny_cons (kit_ty h2) (fun e => ?_) fun e => by rw [← h4, e]; rfl
  refine kitAny_cons (kit_ty h3) (fun e2 => ?_) fun e2 => by rw [← h4, e2, Bool.or_true]
  rw [kitAny_nil, ← h4, e, e2]; rfl
theorem r_rfl {a : V} {P : Prop} (q : P) : a = a ∧ P := ⟨rfl, q⟩
end
/-- is_whole's answer -/
def loOk : V → Int → Bool
  | .int l, i => decide (l ≤ i)
  | _, _ => true
def hiOk : V → Int → Bool
  | .int l, i => decide (i ≤ l)
  | _, _ => true
def wholeV : V → V → V → Bool
  | .int i, lo, hi => loOk lo i && hiOk hi i
  | _, _, _ => false
def Bd (x : V) : Prop := x = .non ∨ ∃ i, x = .int i
theorem wholeV_int {x : V} {l h : Int} : wholeV x (.int l) (.int h) = true → ∃ i, x = .int i ∧ l ≤ i ∧ i ≤ h := by
  intro q
  cases x with
  | int i => simp [wholeV, loOk, hiOk] at q; exact ⟨i, rfl, q⟩
  | _ => cases q
end Jv
namespace Jv
open PySem PySem.Spec PyProof.Rows L2
theorem wholeV_lo0 {i a : Int} {hi : V} (h : i < a) : wholeV (.int i) (.int a) hi = false := by
  show (decide (a ≤ i) && hiOk hi i) = false
  rw [decide_eq_false (by omega), Bool.false_and]
theorem wholeV_lo1 {i a : Int} {hi : V} (h : ¬ i < a) : wholeV (.int i) (.int a) hi = hiOk hi i := by
  show (decide (a ≤ i) && hiOk hi i) = _
  rw [decide_eq_true (by omega), Bool.true_and]
theorem r_dec1 {A B p : Prop} {_ : Decidable p} (h : p) (q : A) : if decide p = true then A else B := r_true (decide_eq_true h) q
theorem r_dec0 {A B p : Prop} {_ : Decidable p} (h : ¬ p) (q : B) : if decide p = true then A else B := r_false (decide_eq_false h) q
end Jv

/-! ### walks over a list or a tuple; comprehensions whose elements are told by a function -/
namespace Jv
open PySem PySem.Spec PyProof.Rows L2
theorem piOr {X : Cx} {tg it : Expr} {w1 w2 : TI} (h : PI X tg it w1) (h' : PI X tg it w2) : PI X tg it (fun σ H R => w1 σ H R ∨ w2 σ H R) := ⟨fun pins s σ H R I q => q.elim (h.run pins s σ H R I) (h'.run pins s σ H R I)⟩
section
variable {K : PySem.W.Frag} {σ : L2.St} {H : Hp} {te : TE} {Q : VK} {xs : List V} {j i : Nat} {x : V}
theorem wipe1 {v : Option V} : wipe ((σ.set j none).set j v) [j] = wipe σ [j] := by
  show ((σ.set j none).set j v).set j none = σ.set j none
  rw [List.set_set, List.set_set]
theorem take_more {α : Type} {l : List α} {i : Nat} {x : α} (h : l[i]? = some x) : l.take (i + 1) = l.take i ++ [x] := by
  rw [List.take_add_one, h]; rfl
theorem lcF {J : It} {G : Hp → Prop} (w : Walk J xs.length G (YAt xs)) (hG : ∀ H', Same H H' → G H') (f : V → V) (few : xs.length ≤ 1000)
    (hs : ∀ v H1, v ∈ xs → Same H H1 → ∀ P : VK, (∀ H2, Same H1 H2 → P (f v) H2) → te ((σ.set j none).set j (some v)) H1 P)
    (hd : ∀ D H1, Same H H1 → H D = none → H1 D = some (.lst (xs.map f)) → Q (.ref D) H1) : ∀ D, H D = none → ∃ W : Nat → Nat → Hp → Prop, (∃ m, W 0 m (upd H D (.lst []))) ∧ ∀ i m H, W i m H →
      (J.stop i H ∧ Q (.ref D) H) ∨ (J.go i H ∧ ∃ Nx : Hp → Prop, (∀ H', Nx H' → ∃ m', m' < m ∧ W (i + 1) m' H') ∧ ∀ x H', J.yld i H x H' → gName j x (wipe σ [j]) H' fun σ2 H2 => wipe σ2 [j] = wipe σ [j] ∧ tYes σ2 H2 fun b H3 =>
        if b = true then te σ2 H3 fun y H4 => ∃ acc, H4 D = some (.lst acc) ∧ acc.length < sizeLine ∧ Nx (upd H4 D (.lst (acc ++ [y]))) else Nx H3) := by
  intro D hD
  refine lc_it w (fun i H1 => Same H H1 ∧ H1 D = some (.lst ((xs.take i).map f))) ⟨same_new hD, upd_same⟩ (fun i H1 _ h => hG H1 h.1) ?_ ?_
  · rintro i x H1 H2 hi ⟨s1, e1⟩ ⟨rfl, hx⟩
    refine ⟨wipe1, ?_⟩
    refine r_yes ?_
    refine r_true (c := true) rfl ?_
    refine hs x _ (List.mem_of_getElem? hx) s1 _ fun H3 s3 => ⟨_, s3 _ _ e1, ?_, ?_, ?_⟩
    · rw [List.length_map, List.length_take]; exact small_lt (by omega)
    · intro b o e; exact kpO (s3 _ _ (s1 b o e)) (ne_of_none e hD)
    · rw [upd_same, take_more hx, List.map_append]; rfl
  · rintro H1 ⟨s1, e1⟩
    rw [List.take_length] at e1
    exact hd D H1 s1 hD e1
/-- over a name that holds a list | a tuple | either -/
theorem lcL {a : Addr} (hv : σ[i]? = some (some (.ref a))) (hx : SqL K H a xs) (f : V → V) (few : xs.length ≤ 1000)
    (hs : ∀ v H1, v ∈ xs → Same H H1 → ∀ P : VK, (∀ H2, Same H1 H2 → P (f v) H2) → te ((σ.set j none).set j (some v)) H1 P)
    (hd : ∀ D H1, Same H H1 → H D = none → H1 D = some (.lst (xs.map f)) → Q (.ref D) H1) : tLc (iList K (tVar i)) (gName j) tYes te [j] σ H Q :=
  ⟨_, hv, a, rfl, ⟨xs, hx⟩, lcF walk_list (fun H' s => s.seq hx) f few hs hd⟩
theorem lcT {a : Addr} (hv : σ[i]? = some (some (.ref a))) (hx : SqT K H a xs) (f : V → V) (few : xs.length ≤ 1000)
    (hs : ∀ v H1, v ∈ xs → Same H H1 → ∀ P : VK, (∀ H2, Same H1 H2 → P (f v) H2) → te ((σ.set j none).set j (some v)) H1 P)
    (hd : ∀ D H1, Same H H1 → H D = none → H1 D = some (.lst (xs.map f)) → Q (.ref D) H1) : tLc (iTup K (tVar i)) (gName j) tYes te [j] σ H Q :=
  ⟨_, hv, a, rfl, ⟨xs, hx⟩, lcF walk_tup (fun H' s => Jv.Same.sqT s hx) f few hs hd⟩
theorem lcS (hv : σ[i]? = some (some x)) (hx : Sq H x xs) (f : V → V) (few : xs.length ≤ 1000)
    (hs : ∀ v H1, v ∈ xs → Same H H1 → ∀ P : VK, (∀ H2, Same H1 H2 → P (f v) H2) → te ((σ.set j none).set j (some v)) H1 P)
    (hd : ∀ D H1, Same H H1 → H D = none → H1 D = some (.lst (xs.map f)) → Q (.ref D) H1) : tLc (fun σ H R => iList K (tVar i) σ H R ∨ iTup K (tVar i) σ H R) (gName j) tYes te [j] σ H Q := by
  obtain ⟨a, rfl, h | h⟩ := hx
  · exact .inl (lcL hv (sqL_at h) f few hs hd)
  · exact .inr (lcT hv (sqT_at h) f few hs hd)
theorem r_all {D : Addr} {f : V → Bool} (h : H D = some (.lst (xs.map fun v => V.bl (f v)))) (q : Q (.bl (xs.all f)) H) : rAll K [.ref D] H Q := by
  refine ⟨D, xs.map f, rfl, sqL_at (by rw [h, List.map_map]; rfl), ?_⟩
  rw [List.all_map]; exact q
theorem Sq.len (h : Sq H x xs) (q : Q (.int xs.length) H) : rLenK K [x] H Q := by
  obtain ⟨a, rfl, h | h⟩ := h
  · exact r_len (.inl (sqL_at h)) q
  · exact r_len (.inr (sqT_at h)) q
theorem Sq.ix (h : Sq H x xs) {k : Int} {v : V} (e : atI xs k = some v) (q : Q v H) : rIx K x (.int k) H Q := by
  obtain ⟨a, rfl, h | h⟩ := h
  · exact .inl (r_ixL (sqL_at h) e q)
  · exact .inr (.inl (r_ixT (sqT_at h) e q))
end
end Jv

/-! ### sorted(t) of a tuple of ints -/
namespace JvS
open PySem PySem.Spec PyProof.Rows L2 SrtO
section
variable {P : Program} {w : World} {A : Around} {E : Value → Shared → Prop} {s : Shared}
/-- the list that collect makes -/
abbrev colH (h : Heap) (vs : List Value) : Heap := (h.push (seqObj "list" #[] 0)).update h.objs.size (Obj.mapSeq (· ++ vs.toArray))
theorem collect_tup {l : Addr} {vs : List Value} {Q : List Value → Shared → Prop} (hl : s.heap.IsTuple l vs.toArray) (h : Q vs { s with heap := colH s.heap vs }) (hsz : vs.length ≤ sizeLine) :
    wpAny (model P w) A (collect (.ref l)) Q E s := by
  obtain ⟨o, ho, hc, n, hd⟩ := id hl
  have ho2 : (s.heap.push (seqObj "list" #[] 0)).get? l = some o := Heap.get?_push_of_some _ ho
  have new : (s.heap.push (seqObj "list" #[] 0)).get? s.heap.objs.size = some (seqObj "list" #[] 0) := Heap.get?_push_size _ rfl
  unfold collect
  refine wpAny_bind (wpAny_runValue (codeAny_builtin entry_proto_collect' (show wpAny _ _ (do again (.builtin "list.__iadd__" ⟨[← newList [], .ref l], []⟩)) _ _ s from
    wpAny_bind (wpAny_newList (wpAny_pure ⟨Code.quiet_builtin _ (by decide +kernel), codeAny_builtin entry_list_iadd' ?_⟩)))))
  show wpAny _ _ (Builtin.List.listExtendWith (.ref s.heap.objs.size) (.ref l) (.ref s.heap.objs.size)) _ _ { s with heap := s.heap.push (seqObj "list" #[] 0) }
  unfold Builtin.List.listExtendWith
  refine wpAny_bind (wpAny_typeOf (T := "tuple") ⟨o, ho2, hc⟩ ?_)
  rw [if_pos (by have e : (Value.type "tuple" == Value.type "tuple") = true := rfl
                 rw [e]; simp)]
  refine wpAny_bind (listItems_at ho2 hd (wpAny_bind (listItems_at (xs := #[]) (n := 0) new rfl ?_)))
  rw [if_neg (by simp)]
  refine wpAny_bind (listUpdate_at (xs := #[]) (n := 0) new rfl (wpAny_pure ?_) (Nat.zero_le _) (by show (#[] ++ vs.toArray).size ≤ sizeLine + 1; simp; omega))
  show wpAny (model P w) A (do
      let o ← load s.heap.objs.size
      match o.data with
      | .seq ys _ => pure ys.toList
      | _ => unsupported "internal:collect") Q E { s with heap := colH s.heap vs }
  refine wpAny_bind (wpAny_load (get?_update_seq new _) (show wpAny _ _ (pure ((#[] : Array Value) ++ vs.toArray).toList) Q E _ from ?_))
  rw [show ((#[] : Array Value) ++ vs.toArray).toList = vs by simp]
  exact wpAny_pure h
theorem sorted_tup {l : Addr} {vs : List Value} {ltv : Value → Value → Bool} {Q : Value → Shared → Prop} (O : Swo ltv) (hl : s.heap.IsTuple l vs.toArray) (hz : vs.length ≤ sizeLine)
    (hS : 2 ≤ vs.length → ∀ (h₁ : Heap) (a : Addr), h₁.get? a = some (seqObj "list" vs.toArray 0) → (∀ b o, s.heap.get? b = some o → b ≠ a ∧ h₁.get? b = some o) → SortableO P w A.in1.in1 { s with heap := h₁ } a vs ltv)
    (h : ∀ out : List Value, Srtd ltv out → Stb ltv out vs → Q (.ref (s.heap.objs.size + 1)) { s with heap := sortedAll s.heap vs out.toArray }) :
    wpAny (model P w) A (call (.builtin "sorted") [.ref l]) Q E s := by
  refine Calls.call_function_entry kind_sorted plain_sorted entry_sorted (args_sorted1 _) ?_
  unfold Builtin.«sorted»
  refine wpAny_bind (m := checkCount "sorted" 1 1 _) (wpAny_pure (wpAny_bind (collect_tup hl (wpAny_bind (wpAny_newList ?_ hz)) hz)))
  have size1 : (colH s.heap vs).objs.size = s.heap.objs.size + 1 := by rw [Heap.size_update, size_push']
  have at2 : ((colH s.heap vs).push (seqObj "list" vs.toArray 0)).get? (s.heap.objs.size + 1) = some (seqObj "list" vs.toArray 0) := by
    rw [← size1]; exact Heap.get?_push_size _ rfl
  have old : ∀ b o, s.heap.get? b = some o → b ≠ s.heap.objs.size + 1 ∧ ((colH s.heap vs).push (seqObj "list" vs.toArray 0)).get? b = some o := fun b o q => by
    have lt := Heap.lt_size q
    refine ⟨Nat.ne_of_lt (Nat.lt_succ_of_lt lt), Heap.get?_push_of_some _ ?_⟩
    rw [Heap.get?_update_ne _ _ _ _ (Nat.ne_of_lt lt)]
    exact Heap.get?_push_of_some _ q
  show wpAny _ _ _ _ _ { s with heap := (colH s.heap vs).push (seqObj "list" vs.toArray 0) }
  rw [size1]
  refine wpAny_bind (wpAny_holding (wpAny_call_entry slot_list_sort ⟨_, at2, rfl⟩ entry_list_sort (list_sort_ord O at2 hz (fun h2 => hS h2 _ _ at2 old) fun out a b => ⟨_, rfl, wpAny_pure ⟨_, rfl, h out a b⟩⟩) (args_list_sort _)))
end
end JvS
namespace Jv
open PySem PySem.Spec PyProof.Rows L2
section
variable {X : Cx}
/-- sorted(x), x a list or a tuple of ints -/
def rSortIT (K : PySem.W.Frag) : List V → Hp → VK → Prop := fun vs H Q => ∃ (a : Addr) (ns : List Int), vs = [V.ref a] ∧ (SqL K H a (ns.map V.int) ∨ SqT K H a (ns.map V.int)) ∧
  ∀ (ns' : List Int) (p : Addr), ns'.Perm ns → ns'.Pairwise (· ≤ ·) → H p = none → Q (.ref p) (upd H p (.lst (ns'.map V.int)))
theorem cr_sortIT : CallR X (.builtin "sorted") (rSortIT X.K) := by
  intro pins s σ H vs us Q I r h
  obtain ⟨a, ns, rfl, hs | hs, q⟩ := h
  · exact cr_sortedI pins s σ H _ us Q I r ⟨a, ns, rfl, hs, q⟩
  · obtain ⟨its, rv, ht, hz⟩ := I.tuple hs
    rw [Vals.ref1 r]
    have hi := rv.ints
    rw [List.length_map] at hz
    have hz2 : its.length ≤ sizeLine := by rw [← rv.length, List.length_map]; exact hz
    refine JvS.sorted_tup SrtO.swo_int (show s.heap.IsTuple a its.toArray from ht) hz2 (fun h2 _ _ _ _ => SrtO.ints_sortable hi h2) fun out h1 h2 => ?_
    obtain ⟨k1, k2, k3⟩ := SrtO.ints_out hi h1 h2
    obtain ⟨ep, he⟩ := PyProof.Rows.sortedAll_at s.heap its out.toArray
    refine ⟨.ref _, upd H (s.heap.objs.size + 1) (.lst ((out.map SrtO.iv).map V.int)), I.laid (t' := s.toks) (fun _ _ => PyProof.Rows.sortedAll_old) (Nat.le_succ _) ⟨?_, out, ep, vals_of_ints k1, he⟩, rfl, q _ _ k2 k3 (I.hok.fresh (Nat.le_succ _))⟩
    rw [List.length_map, k2.length_eq]; exact hz
end
/-! ### data of ints -/
theorem canAll_ints : ∀ ns : List Int, PyData.canLayAll0 (ns.map PyData.int) = true
  | [] => by simp [PyData.canLayAll0]
  | a :: r => by simp [PyData.canLayAll0, PyData.canLay0, canAll_ints r]
theorem depAll_ints : ∀ ns : List Int, PyData.depthAll (ns.map PyData.int) = 0
  | [] => by simp [PyData.depthAll]
  | a :: r => by simp [PyData.depthAll, PyData.depth, depAll_ints r]
theorem shapedL (ns : List Int) : SeqAt.shaped (.list (ns.map .int)) = true := by simp [SeqAt.shaped, PyData.canLay0, PyData.depth, canAll_ints, depAll_ints]
theorem shapedT (ns : List Int) : SeqAt.shaped (.tuple (ns.map .int)) = true := by simp [SeqAt.shaped, PyData.canLay0, PyData.depth, canAll_ints, depAll_ints]
theorem eqvAll_ints : ∀ a b : List Int, PyData.eqvAll (a.map .int) (b.map .int) = decide (a = b)
  | [], [] => by simp [PyData.eqvAll]
  | [], _ :: _ => by simp [PyData.eqvAll]
  | _ :: _, [] => by simp [PyData.eqvAll]
  | x :: a, y :: b => by
    simp only [List.map_cons, PyData.eqvAll, PyData.eqv, eqvAll_ints a b]
    by_cases h : x = y <;> by_cases g : a = b <;> simp [h, g]
theorem eqvL (a b : List Int) : PyData.eqv (.list (a.map .int)) (.list (b.map .int)) = decide (a = b) := by rw [PyData.eqv, eqvAll_ints]
theorem eqvT (a b : List Int) : PyData.eqv (.tuple (a.map .int)) (.tuple (b.map .int)) = decide (a = b) := by rw [PyData.eqv, eqvAll_ints]
section
variable {K : PySem.W.Frag} {H : Hp}
theorem dpAll_ints : ∀ ns : List Int, DpAll K H (ns.map V.int) (ns.map PyData.int)
  | [] => .nil
  | a :: r => .cons (.int a) (dpAll_ints r)
theorem dpL {a : Addr} {ns : List Int} (h : SqL K H a (ns.map V.int)) : Dp K H (.ref a) (.list (ns.map .int)) := .lst h (dpAll_ints ns)
theorem dpT {a : Addr} {ns : List Int} (h : SqT K H a (ns.map V.int)) : Dp K H (.ref a) (.tuple (ns.map .int)) := .tup h (dpAll_ints ns)
end
end Jv

/-! ### kinds, lots, orders -/
namespace Jv
open PySem PySem.Spec PyProof.Rows L2
def intsV : List V → Option (List Int)
  | [] => some []
  | .int i :: r => (intsV r).map (i :: ·)
  | _ :: _ => none
theorem iv_map : ∀ ns : List Int, intsV (ns.map V.int) = some ns
  | [] => rfl
  | a :: r => by simp [intsV, iv_map r]
theorem iv_of : ∀ {xs : List V} {ns : List Int}, intsV xs = some ns → xs = ns.map V.int
  | [], ns, h => by cases h; rfl
  | .int i :: r, ns, h => by
    cases e : intsV r with
    | none => simp [intsV, e] at h
    | some m => simp [intsV, e] at h; subst h; rw [iv_of e]; rfl
  | .non :: _, _, h => by cases h
  | .bl _ :: _, _, h => by cases h
  | .str _ :: _, _, h => by cases h
  | .byt _ :: _, _, h => by cases h
  | .flt _ :: _, _, h => by cases h
  | .ref _ :: _, _, h => by cases h
  | .ty _ :: _, _, h => by cases h
/-- what a sequence's items must be for the program to look at them -/
def ThS (H : Hp) (x : V) : Prop := Th H x ∧ ∀ xs, Sq H x xs → xs.length ≤ 60 ∧ ∀ v ∈ xs, Th H v
theorem ThS.same {H H' : Hp} {x : V} (h : ThS H x) (s : Same H H') : ThS H' x := ⟨h.1.same s, fun xs q => by
  have e := q.of
  rw [sqOf_same h.1 s] at e
  obtain ⟨a, b⟩ := h.2 xs (sq_some e)
  exact ⟨a, fun v m => (b v m).same s⟩⟩
def kindsB (H : Hp) (x : V) (k : Int) : Bool := match sqOf H x with
  | some xs => xs.all fun v => wholeV v (.int 0) (.int (k - 1))
  | none => false
def inK (k : Int) (ns : List Int) : Prop := ∀ n ∈ ns, 0 ≤ n ∧ n ≤ k - 1
theorem whole_all {k : Int} : ∀ {xs : List V}, (xs.all fun v => wholeV v (.int 0) (.int (k - 1))) = true → ∃ ns, xs = ns.map V.int ∧ inK k ns
  | [], _ => ⟨[], rfl, fun _ h => by cases h⟩
  | x :: r, h => by
    rw [List.all_cons, Bool.and_eq_true] at h
    obtain ⟨i, rfl, h1, h2⟩ := wholeV_int h.1
    obtain ⟨ns, rfl, h3⟩ := whole_all h.2
    refine ⟨i :: ns, rfl, fun n hn => ?_⟩
    rcases List.mem_cons.mp hn with rfl | hn
    · exact ⟨h1, h2⟩
    · exact h3 n hn
theorem all_whole {k : Int} {ns : List Int} (h : inK k ns) : ((ns.map V.int).all fun v => wholeV v (.int 0) (.int (k - 1))) = true := by
  rw [List.all_map, List.all_eq_true]
  intro n hn
  obtain ⟨a, b⟩ := h n hn
  show (decide (0 ≤ n) && decide (n ≤ k - 1)) = true
  rw [decide_eq_true a, decide_eq_true b]; rfl
instance {k : Int} {ns : List Int} : Decidable (inK k ns) := inferInstanceAs (Decidable (∀ n ∈ ns, _))
theorem whole_all_iff {k : Int} {ns : List Int} : ((ns.map V.int).all fun v => wholeV v (.int 0) (.int (k - 1))) = decide (inK k ns) := by
  by_cases h : inK k ns
  · rw [all_whole h, decide_eq_true h]
  · rw [decide_eq_false h]
    cases e : (ns.map V.int).all fun v => wholeV v (.int 0) (.int (k - 1)) with
    | false => rfl
    | true =>
      obtain ⟨ms, e2, h2⟩ := whole_all e
      have e3 : ns = ms := by have q := iv_map ns; rw [e2, iv_map] at q; cases q; rfl
      exact absurd (e3 ▸ h2) h
theorem sorted_ext : ∀ {a b : List Int}, a.Pairwise (· < ·) → b.Pairwise (· < ·) → (∀ n, n ∈ a ↔ n ∈ b) → a = b
  | [], [], _, _, _ => rfl
  | [], y :: _, _, _, h => absurd ((h y).mpr List.mem_cons_self) (by simp)
  | x :: _, [], _, _, h => absurd ((h x).mp List.mem_cons_self) (by simp)
  | x :: a, y :: b, ha, hb, h => by
    have ha' := List.pairwise_cons.mp ha
    have hb' := List.pairwise_cons.mp hb
    have e : x = y := by
      rcases List.mem_cons.mp ((h x).mp List.mem_cons_self) with e | m1
      · exact e
      · rcases List.mem_cons.mp ((h y).mpr List.mem_cons_self) with e | m2
        · exact e.symm
        · have q1 := hb'.1 x m1
          have q2 := ha'.1 y m2
          omega
    subst e
    congr 1
    refine sorted_ext ha'.2 hb'.2 fun n => ⟨fun m => ?_, fun m => ?_⟩
    · rcases List.mem_cons.mp ((h n).mp (List.mem_cons_of_mem _ m)) with e | q
      · subst e; exact absurd (ha'.1 n m) (by omega)
      · exact q
    · rcases List.mem_cons.mp ((h n).mpr (List.mem_cons_of_mem _ m)) with e | q
      · subst e; exact absurd (hb'.1 n m) (by omega)
      · exact q
def lotP (k : Int) (ns : List Int) : Prop := inK k ns ∧ 0 < ns.length ∧ ns.Pairwise (· < ·)
instance {k : Int} {ns : List Int} : Decidable (lotP k ns) := inferInstanceAs (Decidable (_ ∧ _))
def lotV (H : Hp) (x : V) (k : Int) : Bool := match sqOf H x with
  | some xs => match intsV xs with
    | some ns => decide (lotP k ns)
    | none => false
  | none => false
theorem set_eq {ns ms : List Int} (h1 : ms.Pairwise (· < ·)) (h2 : ∀ k : Int, k ∈ ms ↔ decide (k ∈ ns) = true) : (ns = ms) ↔ ns.Pairwise (· < ·) :=
  ⟨fun e => e ▸ h1, fun h => sorted_ext h h1 fun n => by rw [h2 n, decide_eq_true_iff]⟩
def orderP (k : Int) (ns : List Int) : Prop := inK k ns ∧ ns.Perm ((List.range k.toNat).map fun (i : Nat) => (i : Int))
instance {k : Int} {ns : List Int} : Decidable (orderP k ns) := inferInstanceAs (Decidable (_ ∧ _))
theorem range_sorted (n : Nat) : ((List.range n).map fun (i : Nat) => (i : Int)).Pairwise (· ≤ ·) := by
  rw [List.pairwise_map]
  exact List.pairwise_lt_range.imp fun h => by omega
theorem sorted_perm {a b : List Int} (ha : a.Pairwise (· ≤ ·)) (hb : b.Pairwise (· ≤ ·)) (h : a.Perm b) : a = b :=
  List.Perm.eq_of_pairwise (fun x y _ _ h1 h2 => by omega) ha hb h
def orderV (H : Hp) (x : V) (k : Int) : Bool := match sqOf H x with
  | some xs => match intsV xs with
    | some ns => decide (orderP k ns)
    | none => false
  | none => false
end Jv
namespace Jv
open PySem PySem.Spec PyProof.Rows L2
section
variable {H : Hp} {x : V} {k : Int} {ns : List Int}
theorem lotV_of (e : sqOf H x = some (ns.map V.int)) : lotV H x k = decide (lotP k ns) := by
  unfold lotV; rw [e]; dsimp only; rw [iv_map]
theorem orderV_of (e : sqOf H x = some (ns.map V.int)) : orderV H x k = decide (orderP k ns) := by
  unfold orderV; rw [e]; dsimp only; rw [iv_map]
theorem kindsB_of (e : sqOf H x = some (ns.map V.int)) : kindsB H x k = decide (inK k ns) := by
  unfold kindsB; rw [e]; exact whole_all_iff
theorem kindsB_true (h : kindsB H x k = true) : ∃ ns, sqOf H x = some (ns.map V.int) ∧ inK k ns := by
  unfold kindsB at h
  cases e : sqOf H x with
  | none => rw [e] at h; cases h
  | some xs =>
    rw [e] at h
    obtain ⟨ns, rfl, q⟩ := whole_all h
    exact ⟨ns, rfl, q⟩
theorem lotV_false (h : kindsB H x k = false) : lotV H x k = false := by
  cases e : sqOf H x with
  | none => unfold lotV; rw [e]
  | some xs =>
    cases e2 : intsV xs with
    | none => unfold lotV; rw [e]; dsimp only; rw [e2]
    | some ns =>
      obtain rfl := iv_of e2
      rw [lotV_of e, decide_eq_false]
      rintro ⟨h1, _⟩
      rw [kindsB_of e, decide_eq_true h1] at h; cases h
theorem orderV_false (h : kindsB H x k = false) : orderV H x k = false := by
  cases e : sqOf H x with
  | none => unfold orderV; rw [e]
  | some xs =>
    cases e2 : intsV xs with
    | none => unfold orderV; rw [e]; dsimp only; rw [e2]
    | some ns =>
      obtain rfl := iv_of e2
      rw [orderV_of e, decide_eq_false]
      rintro ⟨h1, _⟩
      rw [kindsB_of e, decide_eq_true h1] at h; cases h
theorem lotV_true (h : lotV H x k = true) : ∃ ns, sqOf H x = some (ns.map V.int) ∧ lotP k ns := by
  cases e : sqOf H x with
  | none => unfold lotV at h; rw [e] at h; cases h
  | some xs =>
    cases e2 : intsV xs with
    | none => unfold lotV at h; rw [e] at h; dsimp only at h; rw [e2] at h; cases h
    | some ns =>
      obtain rfl := iv_of e2
      rw [lotV_of e] at h
      exact ⟨ns, rfl, of_decide_eq_true h⟩
theorem Sq.or {K : PySem.W.Frag} {a : Addr} {xs : List V} (h : H a = some (.lst xs) ∨ H a = some (.tup xs)) : SqL K H a xs ∨ SqT K H a xs := h.elim (fun h => .inl (sqL_at h)) fun h => .inr (sqT_at h)
end
end Jv
namespace Jv
open PySem PySem.Spec PyProof.Rows L2
theorem rgV0 {k : Int} : rgV 0 k = ((List.range k.toNat).map fun (i : Nat) => (i : Int)).map V.int := by
  unfold rgV
  rw [List.map_map, Int.sub_zero]
  refine List.map_congr_left fun i _ => ?_
  show V.int (0 + (i : Int)) = V.int i
  rw [Int.zero_add]
end Jv

/-! ### pairs of two ranges; data as lists of pairs -/
namespace Jv
open PySem PySem.Spec PyProof.Rows L2
/-- references to tuples of two ints that stand -/
def Tups (H : Hp) (refs : List V) (prs : List (Int × Int)) : Prop := Paired (fun v (pr : Int × Int) => ∃ t, v = V.ref t ∧ H t = some (.tup [.int pr.1, .int pr.2])) refs prs
theorem Paired.mono' {α β : Type} {F G : α → β → Prop} (h : ∀ a b, F a b → G a b) : ∀ {xs : List α} {ys : List β}, Paired F xs ys → Paired G xs ys
  | _, _, .nil => .nil
  | _, _, .cons r t => .cons (h _ _ r) (Paired.mono' h t)
theorem Paired.snoc {α β : Type} {F : α → β → Prop} {a : α} {b : β} (h : F a b) : ∀ {xs : List α} {ys : List β}, Paired F xs ys → Paired F (xs ++ [a]) (ys ++ [b])
  | _, _, .nil => .cons h .nil
  | _, _, .cons r t => .cons r (Paired.snoc h t)
theorem Tups.same {H H' : Hp} {refs : List V} {prs : List (Int × Int)} (h : Tups H refs prs) (s : Same H H') : Tups H' refs prs := Paired.mono' (fun _ _ ⟨t, e, q⟩ => ⟨t, e, s _ _ q⟩) h
theorem Tups.upd {H : Hp} {D : Addr} {o : HO} {refs : List V} {prs : List (Int × Int)} (h : Tups H refs prs) (n : ∀ xs, H D ≠ some (.tup xs)) : Tups (L2.upd H D o) refs prs :=
  Paired.mono' (fun _ _ ⟨t, e, q⟩ => ⟨t, e, by rw [upd_ne]; exact q; intro z; rw [z] at q; exact n _ q⟩) h
def pairsTo (q i j : Nat) : List (Int × Int) := ((List.range i).flatMap fun (e : Nat) => (List.range q).map fun (w : Nat) => ((e : Int), (w : Int))) ++ (List.range j).map fun (w : Nat) => ((i : Int), (w : Int))
def prs (p q : Nat) : List (Int × Int) := pairsTo q p 0
theorem pairsTo_next (q i : Nat) : pairsTo q i q = pairsTo q (i + 1) 0 := by
  unfold pairsTo
  rw [List.range_succ, List.flatMap_append]
  simp
theorem pairsTo_more (q i j : Nat) : pairsTo q i (j + 1) = pairsTo q i j ++ [((i : Int), (j : Int))] := by
  unfold pairsTo
  rw [List.range_succ (n := j), List.map_append, List.append_assoc]; rfl
theorem pairsTo_len (q i j : Nat) : (pairsTo q i j).length = i * q + j := by
  unfold pairsTo
  rw [List.length_append, List.length_map, List.length_range]
  congr 1
  induction i with
  | zero => simp
  | succ i ih => rw [List.range_succ, List.flatMap_append, List.length_append, ih]; simp [Nat.succ_mul]
section
variable {σ : L2.St} {H : Hp} {ta tb : TA} {te : TE} {Q : VK} {a b p q : Nat}
theorem lc2R (hp : p ≤ 20) (hq : q ≤ 20) (w1 : ∀ x, wipe ((wipe σ [a, b]).set a (some x)) [a, b] = wipe σ [a, b])
    (w2 : ∀ x y, wipe ((wipe ((wipe σ [a, b]).set a (some x)) [b]).set b (some y)) [b] = wipe ((wipe σ [a, b]).set a (some x)) [b])
    (hta : ∀ P : List V → Hp → Prop, P [.int p] H → ta σ H P)
    (htb : ∀ (i : Nat) H1, i < p → Same H H1 → ∀ P : List V → Hp → Prop, P [.int q] H1 → tb ((wipe σ [a, b]).set a (some (.int i))) H1 P)
    (hte : ∀ (i j : Nat) H1, i < p → j < q → Same H H1 → ∀ P : VK, (∀ t H2, Same H1 H2 → H1 t = none → H2 t = some (.tup [.int i, .int j]) → P (.ref t) H2) → te ((wipe ((wipe σ [a, b]).set a (some (.int i))) [b]).set b (some (.int j))) H1 P)
    (hd : ∀ D refs H1, Same H H1 → H D = none → H1 D = some (.lst refs) → Tups H1 refs (prs p q) → Q (.ref D) H1) :
    tLc2 (iRng1 ta) (gName a) tYes (iRng1 tb) (gName b) tYes te [a, b] [b] σ H Q := by
  refine hta _ ⟨p, rfl, by omega, by omega, fun D hD => ?_⟩
  have key : ∀ (i j : Nat) H1, (∃ refs, Same H H1 ∧ H1 D = some (.lst refs) ∧ Tups H1 refs (pairsTo q i j)) → ∃ refs, Same H H1 ∧ H1 D = some (.lst refs) ∧ Tups H1 refs (pairsTo q i j) := fun _ _ _ h => h
  refine ⟨fun i m H1 => m = p - i ∧ i ≤ p ∧ ∃ refs, Same H H1 ∧ H1 D = some (.lst refs) ∧ Tups H1 refs (pairsTo q i 0), ⟨p, by omega, by omega, [], same_new hD, upd_same, .nil⟩, ?_⟩
  rintro i m H1 ⟨rfl, hi, refs, s1, e1, t1⟩
  by_cases lt : i < p
  · refine .inr ⟨by show i < (p : Int).toNat; omega, fun H' => ∃ refs, Same H H' ∧ H' D = some (.lst refs) ∧ Tups H' refs (pairsTo q (i + 1) 0), fun H' h => ⟨p - (i + 1), by omega, rfl, lt, h⟩, ?_⟩
    rintro x H2 ⟨rfl, rfl⟩
    rw [Int.zero_add]
    refine ⟨w1 _, r_yes (r_true (c := true) rfl ?_)⟩
    refine htb i _ lt s1 _ ⟨q, rfl, by omega, by omega, ?_⟩
    refine ⟨fun j k H1 => k = q - j ∧ j ≤ q ∧ ∃ refs, Same H H1 ∧ H1 D = some (.lst refs) ∧ Tups H1 refs (pairsTo q i j), ⟨q, by omega, by omega, refs, s1, e1, t1⟩, ?_⟩
    rintro j k H3 ⟨rfl, hj, refs, s3, e3, t3⟩
    by_cases lt2 : j < q
    · refine .inr ⟨by show j < (q : Int).toNat; omega, fun H' => ∃ refs, Same H H' ∧ H' D = some (.lst refs) ∧ Tups H' refs (pairsTo q i (j + 1)), fun H' h => ⟨q - (j + 1), by omega, rfl, lt2, h⟩, ?_⟩
      rintro y H4 ⟨rfl, rfl⟩
      rw [Int.zero_add]
      refine ⟨w2 _ _, r_yes (r_true (c := true) rfl ?_)⟩
      refine hte i j _ lt lt2 s3 _ fun t H5 s5 ht h5 => ⟨refs, s5 _ _ e3, ?_, refs ++ [.ref t], ?_, upd_same, ?_⟩
      · have h1 := Paired.length t3
        have h2 := pairsTo_len q i j
        have h3 : i * q ≤ 20 * 20 := Nat.mul_le_mul (by omega) (by omega)
        exact small_lt (by omega)
      · intro c o hc
        exact kpO (s5 _ _ (s3 _ _ hc)) (ne_of_none hc hD)
      · rw [pairsTo_more]
        refine Tups.upd (Paired.snoc ⟨t, rfl, h5⟩ (t3.same s5)) fun xs z => ?_
        have := s5 _ _ e3
        rw [this] at z; cases z
    · have ej : j = q := by omega
      subst ej
      refine .inl ⟨by show (j : Int).toNat ≤ j; omega, refs, s3, e3, ?_⟩
      rw [← pairsTo_next]; exact t3
  · have ei : i = p := by omega
    subst ei
    exact .inl ⟨by show (i : Int).toNat ≤ i; omega, hd D refs _ s1 hD e1 t1⟩
end
end Jv
namespace Jv
open PySem PySem.Spec PyProof.Rows L2
theorem log_small {m : Int} (h0 : 0 < m) (h1 : m < 2 ^ 200) : m.natAbs.log2 < 9000 := Nat.lt_trans (PySem.Flt.log2_lt_of (n := m.natAbs) (k := 200) (by decide) (by omega)) (by decide)
theorem cdivS {i m : Int} (h0 : 0 < m) (h1 : m < 2 ^ 200) : CDivW i m := ⟨h0, log_small h0 h1⟩
end Jv
namespace Jv
open PySem PySem.Spec PyProof.Rows L2
section
variable {K : PySem.W.Frag} {σ : L2.St} {H : Hp} {Q : VK} {to : TE} {t : TA} {y : V}
theorem r_bm {T : String} {r : V → List V → Hp → VK → Prop} (h : to σ H fun x H1 => tyV K T x H1 ∧ t σ H1 fun xs H2 => r x xs H2 Q) : tBM K T r to t σ H Q := h
theorem r_tyL {p : Addr} {xs : List V} {P : Prop} (h : H p = some (.lst xs)) (q : P) : tyV K "list" (.ref p) H ∧ P := ⟨.inl ⟨rfl, xs, sqL_at h⟩, q⟩
theorem r_app {l : Addr} {xs : List V} (h : H l = some (.lst xs)) (hz : xs.length < 1000) (q : Q .non (upd H l (.lst (xs ++ [y])))) : rAppend (.ref l) [y] H Q := ⟨l, xs, y, rfl, rfl, h, small_lt hz, q⟩
theorem seqIx {k : Int} {n : Nat} (h0 : 0 ≤ k) (h1 : k.toNat < n) : seqIndex? k n = some k.toNat := by
  unfold seqIndex?
  simp; omega
theorem r_popAt {l : Addr} {xs : List V} {k : Int} (h : H l = some (.lst xs)) (h0 : 0 ≤ k) (h1 : k < 1000) (e : xs[k.toNat]? = some y) (q : Q y (upd H l (.lst (xs.eraseIdx k.toNat)))) : rPopAt (.ref l) [.int k] H Q :=
  ⟨l, xs, k, k.toNat, y, rfl, rfl, h, by omega, by omega, seqIx h0 (List.getElem?_eq_some_iff.mp e).1, e, q⟩
theorem erase_perm : ∀ {l : List Int} {k : Nat} {z : Int}, l[k]? = some z → (z :: l.eraseIdx k).Perm l
  | [], k, z, h => by simp at h
  | a :: r, 0, z, h => by
    have e : a = z := Option.some.inj h
    subst e; exact .refl _
  | a :: r, k + 1, z, h => (List.Perm.swap a z _).trans (List.Perm.cons a (erase_perm (l := r) (k := k) h))
theorem pop_perm {ns ms : List Int} {k : Nat} {z : Int} (e : ms[k]? = some z) : ((ns ++ [z]) ++ ms.eraseIdx k).Perm (ns ++ ms) := by
  rw [List.append_assoc]
  exact List.Perm.append_left ns (erase_perm e)
def rgI (n : Nat) : List Int := (List.range n).map fun (i : Nat) => (i : Int)
end
theorem rises_no {ns : List Int} {k b z : Int} {i : Nat} (hz : ns[i]? = some z) (hb : b = -1 ∨ b ∈ ns.take i) (h : ¬ (b < z ∧ z < k)) : ¬ lotP k ns := fun ⟨h1, _, h3⟩ => by
  obtain ⟨a0, a1⟩ := h1 z (List.mem_of_getElem? hz)
  refine h ⟨?_, by omega⟩
  rcases hb with rfl | hb
  · omega
  · obtain ⟨hi, rfl⟩ := List.getElem?_eq_some_iff.mp hz
    rw [← List.take_append_drop i ns, List.pairwise_append] at h3
    exact h3.2.2 b hb _ (by rw [List.mem_iff_getElem]; exact ⟨0, by rw [List.length_drop]; omega, by simp⟩)
end Jv
namespace Jv
open PySem PySem.Spec PyProof.Rows L2
theorem erase_map : ∀ (l : List Int) (j : Nat), (l.map V.int).eraseIdx j = (l.eraseIdx j).map V.int
  | [], _ => rfl
  | _ :: _, 0 => rfl
  | a :: r, j + 1 => congrArg (V.int a :: ·) (erase_map r j)
end Jv

/-! ### keyword calls, dict displays, things that are refused -/
namespace Jv
open PySem PySem.Spec PyProof.Rows L2
section
variable {K : PySem.W.Frag} {σ : L2.St} {H : Hp} {t tk : TA} {te tv : TE} {Q : VK} {A B : Prop}
theorem r_callN {n m : Nat} {sp : Sp} {gV : List V → List V → List V} {E : XK} (h : t σ H fun vs H1 => tk σ H1 fun zs H2 => vs.length = n ∧ zs.length = m ∧ sp (gV vs zs) H2 Q E) : tCallN n m sp gV E t tk σ H Q := h
theorem r_disp1 {k v : Int} (q : ∀ p, H p = none → Q (.ref p) (upd H p (.dK [(.inl k, .int v)]))) : tDisp [(tC (.int k), tC (.int v))] σ H Q := fun p hp =>
  ⟨upd_same, [(.inl k, .int v)], rfl, Nat.le_of_ble_eq_true rfl, by rw [upd_upd]; exact q p hp⟩
theorem r_disp2 {k v k' v' : Int} (ne : k ≠ k') (q : ∀ p, H p = none → Q (.ref p) (upd H p (.dK [(.inl k, .int v), (.inl k', .int v')]))) : tDisp [(tC (.int k), tC (.int v)), (tC (.int k'), tC (.int v'))] σ H Q := fun p hp =>
  ⟨upd_same, [(.inl k, .int v), (.inl k', .int v')], rfl, Nat.le_of_ble_eq_true rfl, by
    rw [upd_upd]
    have e : mergeK ([] : List (Key × V)) [(.inl k, .int v), (.inl k', .int v')] = [(.inl k, .int v), (.inl k', .int v')] := by
      simp [mergeK, putK, ne]
    rw [e]; exact q p hp⟩
theorem r_same {b : Bool} (q : B) : if (!decide (b = b)) = true then A else B := r_false (by rw [decide_eq_true rfl]; rfl) q
theorem r_same' {b c : Bool} (e : b = c) (q : B) : if (!decide (b = c)) = true then A else B := by subst e; exact r_same q
/-- the same, in a condition that is not yet an if -/
theorem r_dsame {P : Bool → Prop} {b : Bool} (q : P true) : P (decide (b = b)) := by rw [decide_eq_true rfl]; exact q
theorem r_and_k {te ta : TE} {c : Bool} (h : te σ H fun x H1 => ∃ c, x = .bl c ∧ if c = true then ta σ H1 Q else Q (.bl false) H1) : tAndV te ta σ H Q := h
end
/-- a thing that is neither a lot nor an order nor sides nor a couple -/
def BadTh (H : Hp) (x : V) : Prop := ThS H x ∧ ∀ xs, sqOf H x = some xs → intsV xs = none
theorem BadTh.same {H H' : Hp} {x : V} (h : BadTh H x) (s : Same H H') : BadTh H' x := ⟨h.1.same s, fun xs e => h.2 xs (by rw [← sqOf_same h.1.1 s]; exact e)⟩
theorem BadTh.lot {H : Hp} {x : V} {k : Int} (h : BadTh H x) : lotV H x k = false := by
  unfold lotV
  cases e : sqOf H x with
  | none => rfl
  | some xs => dsimp only; rw [h.2 xs e]
theorem BadTh.order {H : Hp} {x : V} {k : Int} (h : BadTh H x) : orderV H x k = false := by
  unfold orderV
  cases e : sqOf H x with
  | none => rfl
  | some xs => dsimp only; rw [h.2 xs e]
section
variable {H : Hp}
theorem bad_sc {x : V} (h : Th H x) (n : sqOf H x = none) : BadTh H x := ⟨⟨h, fun xs q => by rw [q.of] at n; cases n⟩, fun xs e => by rw [n] at e; cases e⟩
theorem bad_dK {a : Addr} {kvs : List (Key × V)} (h : H a = some (.dK kvs)) : BadTh H (.ref a) := bad_sc (.inr (.inr ⟨_, h⟩)) (by simp [sqOf, h])
theorem bad_sq {a : Addr} {xs : List V} (h : H a = some (.lst xs) ∨ H a = some (.tup xs)) (few : xs.length ≤ 60) (th : ∀ v ∈ xs, Th H v) (n : intsV xs = none) : BadTh H (.ref a) := by
  have sq : Sq H (.ref a) xs := ⟨a, rfl, h⟩
  refine ⟨⟨sq.th, fun ys q => ?_⟩, fun ys e => ?_⟩
  · have e := q.of; rw [sq.of] at e; cases e; exact ⟨few, th⟩
  · rw [sq.of] at e; cases e; exact n
theorem thS_ints {a : Addr} {ns : List Int} (h : H a = some (.lst (ns.map V.int)) ∨ H a = some (.tup (ns.map V.int))) (few : ns.length ≤ 60) : ThS H (.ref a) := by
  have sq : Sq H (.ref a) (ns.map V.int) := ⟨a, rfl, h⟩
  refine ⟨sq.th, fun ys q => ?_⟩
  have e := q.of; rw [sq.of] at e; cases e
  refine ⟨by rw [List.length_map]; exact few, fun v hv => ?_⟩
  obtain ⟨i, _, rfl⟩ := List.mem_map.mp hv
  trivial
theorem wholeV_not {x lo hi : V} (h : isI x = false) : wholeV x lo hi = false := by
  cases x with
  | int i => cases h
  | _ => rfl
theorem shaped_bad {d : PyData} (h : PyData.canLay0 d = true) (h2 : PyData.depth d = 0) : SeqAt.shaped (.list [.str "bad", d]) = true := by
  simp [SeqAt.shaped, PyData.canLay0, PyData.depth, PyData.canLayAll0, PyData.depthAll, h, h2]; decide +kernel
end
end Jv

/-! ### data: none, truths, whole numbers, texts, lists that stand, tuples that stand or are the program's own -/
namespace Jv
open PySem PySem.Spec PyProof.Rows L2
mutual
inductive Dv (K : PySem.W.Frag) (H : Hp) : V → PyData → Prop
  | non : Dv K H .non .none
  | bl (b : Bool) : Dv K H (.bl b) (.bool b)
  | int (i : Int) : Dv K H (.int i) (.int i)
  | str (x : Str) : Dv K H (.str x) (.str x)
  | lst {a : Addr} {xs : List V} {ds : List PyData} : H a = some (.lst xs) → DvAll K H xs ds → Dv K H (.ref a) (.list ds)
  | tup {a : Addr} {xs : List V} {ds : List PyData} : SqT K H a xs → DvAll K H xs ds → Dv K H (.ref a) (.tuple ds)
inductive DvAll (K : PySem.W.Frag) (H : Hp) : List V → List PyData → Prop
  | nil : DvAll K H [] []
  | cons {v : V} {vs : List V} {d : PyData} {ds : List PyData} : Dv K H v d → DvAll K H vs ds → DvAll K H (v :: vs) (d :: ds)
end
mutual
theorem Dv.same {K : PySem.W.Frag} {H H' : Hp} (s : Same H H') : ∀ {v : V} {d : PyData}, Dv K H v d → Dv K H' v d
  | _, _, .non => .non
  | _, _, .bl b => .bl b
  | _, _, .int i => .int i
  | _, _, .str x => .str x
  | _, _, .lst h q => .lst (s _ _ h) (DvAll.same s q)
  | _, _, .tup h q => .tup (Jv.Same.sqT s h) (DvAll.same s q)
theorem DvAll.same {K : PySem.W.Frag} {H H' : Hp} (s : Same H H') : ∀ {vs : List V} {ds : List PyData}, DvAll K H vs ds → DvAll K H' vs ds
  | _, _, .nil => .nil
  | _, _, .cons a b => .cons (Dv.same s a) (DvAll.same s b)
end
mutual
theorem Dv.dp {K : PySem.W.Frag} {H : Hp} : ∀ {v : V} {d : PyData}, Dv K H v d → Dp K H v d
  | _, _, .non => .non
  | _, _, .bl b => .bl b
  | _, _, .int i => .int i
  | _, _, .str x => .str x
  | _, _, .lst h q => .lst (sqL_at h) (DvAll.dp q)
  | _, _, .tup h q => .tup h (DvAll.dp q)
theorem DvAll.dp {K : PySem.W.Frag} {H : Hp} : ∀ {vs : List V} {ds : List PyData}, DvAll K H vs ds → DpAll K H vs ds
  | _, _, .nil => .nil
  | _, _, .cons a b => .cons (Dv.dp a) (DvAll.dp b)
end
section
variable {K : PySem.W.Frag} {H : Hp} {v : V} {d : PyData} {vs : List V} {ds : List PyData}
theorem DvAll.len : ∀ {vs : List V} {ds : List PyData}, DvAll K H vs ds → vs.length = ds.length
  | _, _, .nil => rfl
  | _, _, .cons _ b => congrArg (· + 1) (DvAll.len b)
theorem DvAll.snoc (h : Dv K H v d) : ∀ {vs : List V} {ds : List PyData}, DvAll K H vs ds → DvAll K H (vs ++ [v]) (ds ++ [d])
  | _, _, .nil => .cons h .nil
  | _, _, .cons a b => .cons a (DvAll.snoc h b)
theorem DvAll.at : ∀ {vs : List V} {ds : List PyData} {i : Nat} {v : V}, DvAll K H vs ds → vs[i]? = some v → ∃ d, ds[i]? = some d ∧ Dv K H v d
  | _, _, _, _, .nil, e => by simp at e
  | _, _, 0, _, .cons a _, e => by
    simp at e; subst e; exact ⟨_, rfl, a⟩
  | _, _, i + 1, _, .cons _ b, e => by
    simp at e ⊢; exact DvAll.at b e
theorem DvAll.of : ∀ {vs : List V} {ds : List PyData} {i : Nat} {d : PyData}, DvAll K H vs ds → ds[i]? = some d → ∃ v, vs[i]? = some v ∧ Dv K H v d
  | _, _, _, _, .nil, e => by simp at e
  | _, _, 0, _, .cons a _, e => by
    simp at e; subst e; exact ⟨_, rfl, a⟩
  | _, _, i + 1, _, .cons _ b, e => by
    simp at e ⊢; exact DvAll.of b e
theorem dv_ints : ∀ ns : List Int, DvAll K H (ns.map V.int) (ns.map PyData.int)
  | [] => .nil
  | a :: r => .cons (.int a) (dv_ints r)
end
/-- what sort a thing is -/
def tyD : PyData → String
  | .none => "NoneType"
  | .bool _ => "bool"
  | .int _ => "int"
  | .str _ => "str"
  | .list _ => "list"
  | .tuple _ => "tuple"
  | _ => "object"
def boolD : PyData → Bool
  | .bool _ => true
  | _ => false
def intD : PyData → Bool
  | .int _ => true
  | _ => false
def seqD : PyData → Option (List PyData)
  | .list xs => some xs
  | .tuple xs => some xs
  | _ => none
section
variable {K : PySem.W.Frag} {H : Hp} {v : V} {d : PyData} {Q : VK}
theorem SqT.tyX {a : Addr} {xs : List V} (h : SqT K H a xs) : TyX K H (.ref a) (.type "tuple") := by
  rcases h with (h | ⟨o, h⟩) | ⟨o, its, n, h, c, _⟩
  · exact .base (.tup h)
  · exact .fTuple h
  · exact .kTuple h c
theorem Dv.ty (h : Dv K H v d) : TyX K H v (.type (tyD d)) := by
  cases h with
  | non => exact .base .non
  | bl b => exact .base (.bl b)
  | int i => exact .base (.int i)
  | str x => exact .base (.str x)
  | lst h _ => exact .base (.lst h)
  | tup h _ => exact SqT.tyX h
theorem Dv.kits (h : Dv K H v d) : kitB (tyD d) "bool" = some (boolD d) ∧ kitB (tyD d) "int" = some (boolD d || intD d) ∧ kitB (tyD d) "list" = some (tyD d == "list") ∧ kitB (tyD d) "tuple" = some (tyD d == "tuple") ∧ kitB (tyD d) "str" = some (tyD d == "str") ∧ ((tyD d == "list") || (tyD d == "tuple")) = (seqD d).isSome := by
  cases h with
  | non => exact ⟨(by decide +kernel : kitB "NoneType" "bool" = some false), (by decide +kernel : kitB "NoneType" "int" = some false), (by decide +kernel : kitB "NoneType" "list" = some ("NoneType" == "list")), (by decide +kernel : kitB "NoneType" "tuple" = some ("NoneType" == "tuple")), (by decide +kernel : kitB "NoneType" "str" = some ("NoneType" == "str")), (by decide +kernel : (("NoneType" == "list") || ("NoneType" == "tuple")) = false)⟩
  | bl b => exact ⟨(by decide +kernel : kitB "bool" "bool" = some true), (by decide +kernel : kitB "bool" "int" = some true), (by decide +kernel : kitB "bool" "list" = some ("bool" == "list")), (by decide +kernel : kitB "bool" "tuple" = some ("bool" == "tuple")), (by decide +kernel : kitB "bool" "str" = some ("bool" == "str")), (by decide +kernel : (("bool" == "list") || ("bool" == "tuple")) = false)⟩
  | int i => exact ⟨(by decide +kernel : kitB "int" "bool" = some false), (by decide +kernel : kitB "int" "int" = some true), (by decide +kernel : kitB "int" "list" = some ("int" == "list")), (by decide +kernel : kitB "int" "tuple" = some ("int" == "tuple")), (by decide +kernel : kitB "int" "str" = some ("int" == "str")), (by decide +kernel : (("int" == "list") || ("int" == "tuple")) = false)⟩
  | str x => exact ⟨(by decide +kernel : kitB "str" "bool" = some false), (by decide +kernel : kitB "str" "int" = some false), (by decide +kernel : kitB "str" "list" = some ("str" == "list")), (by decide +kernel : kitB "str" "tuple" = some ("str" == "tuple")), (by decide +kernel : kitB "str" "str" = some ("str" == "str")), (by decide +kernel : (("str" == "list") || ("str" == "tuple")) = false)⟩
  | lst _ _ => exact ⟨(by decide +kernel : kitB "list" "bool" = some false), (by decide +kernel : kitB "list" "int" = some false), (by decide +kernel : kitB "list" "list" = some ("list" == "list")), (by decide +kernel : kitB "list" "tuple" = some ("list" == "tuple")), (by decide +kernel : kitB "list" "str" = some ("list" == "str")), (by decide +kernel : (("list" == "list") || ("list" == "tuple")) = true)⟩
  | tup _ _ => exact ⟨(by decide +kernel : kitB "tuple" "bool" = some false), (by decide +kernel : kitB "tuple" "int" = some false), (by decide +kernel : kitB "tuple" "list" = some ("tuple" == "list")), (by decide +kernel : kitB "tuple" "tuple" = some ("tuple" == "tuple")), (by decide +kernel : kitB "tuple" "str" = some ("tuple" == "str")), (by decide +kernel : (("tuple" == "list") || ("tuple" == "tuple")) = true)⟩
theorem d_isB (h : Dv K H v d) (q : Q (.bl (boolD d)) H) : rIsi K [v, .ty "bool"] H Q := ⟨v, _, _, _, _, rfl, .ty _, h.ty, kit_ty h.kits.1, q⟩
theorem d_isI (h : Dv K H v d) (q : Q (.bl (boolD d || intD d)) H) : rIsi K [v, .ty "int"] H Q := ⟨v, _, _, _, _, rfl, .ty _, h.ty, kit_ty h.kits.2.1, q⟩
theorem d_isT (h : Dv K H v d) (q : Q (.bl (tyD d == "tuple")) H) : rIsi K [v, .ty "tuple"] H Q := ⟨v, _, _, _, _, rfl, .ty _, h.ty, kit_ty h.kits.2.2.2.1, q⟩
theorem d_isStr (h : Dv K H v d) (q : Q (.bl (tyD d == "str")) H) : rIsi K [v, .ty "str"] H Q := ⟨v, _, _, _, _, rfl, .ty _, h.ty, kit_ty h.kits.2.2.2.2.1, q⟩
theorem d_isS {p : Addr} (hp : H p = some (.tup [.ty "list", .ty "tuple"])) (h : Dv K H v d) (q : Q (.bl (seqD d).isSome) H) : rIsiT K [v, .ref p] H Q := by
  obtain ⟨_, _, h2, h3, _, h4⟩ := h.kits
  refine ⟨v, p, _, _, _, (seqD d).isSome, rfl, hp, .cons (.ty _) (.cons (.ty _) .nil), h.ty, ?_, q⟩
  refine kitAny_cons (kit_ty h2) (fun e => ?_) fun e => by rw [← h4, e]; rfl
  refine kitAny_cons (kit_ty h3) (fun e2 => ?_) fun e2 => by rw [← h4, e2, Bool.or_true]
  rw [kitAny_nil, ← h4, e, e2]; rfl
/-- a sequence's items -/
theorem Dv.seq (h : Dv K H v d) {ds : List PyData} (e : seqD d = some ds) : ∃ a xs, v = .ref a ∧ (SqL K H a xs ∨ SqT K H a xs) ∧ DvAll K H xs ds := by
  cases h with
  | lst h q => cases e; exact ⟨_, _, rfl, .inl (sqL_at h), q⟩
  | tup h q => cases e; exact ⟨_, _, rfl, .inr h, q⟩
  | _ => cases e
end
/-- is_whole's answer, of data -/
def wholeD : PyData → V → V → Bool
  | .int i, lo, hi => loOk lo i && hiOk hi i
  | _, _, _ => false
end Jv

/-! ### methods, makings that may raise within a try; static methods; readings of objects -/
namespace Jv
open PySem PySem.Spec PyProof.Rows L2
section
variable {X : Cx} {CX : CXT} {k : Nat} {f C : Addr} {fd : FuncData} {ps : List Str} {sp : Sp} {dvs : List V} {ds : List Value} {E : L2.St → XK} {x m : Str} {p pos apos : Pos} {e o : Expr} {es : List Expr} {ta : TE} {t : TA}
theorem run_fnX {pins : List (Addr × Obj)} {σ : L2.St} {H : Hp} {s : Shared} {Q : VK} {us : List Value} {vs : List V} (F : FnOk X.prog X.w X.K X.mg X.base CX k f fd ps sp) (hr : Room k X.A) (hb : Binds X.K fd ps ds) (hd : Vals dvs ds) (hx : PassesAt CX X σ (E σ))
    (I : Inv X pins σ H s) (r : Vals vs us) (h : sp (vs ++ dvs) H Q (E σ)) : wpAny (model X.prog X.w) X.A (call (.ref f) us) (EP X pins σ Q) X.xe s := by
  have r2 : Vals (vs ++ dvs) (us ++ ds) := r.append hd
  have hl : (us ++ ds).length = ps.length := by rw [← r2.length]; exact F.len _ _ _ _ h
  refine wpAny_call (codeAny_mono (F.run X.A X.stack s H ⟨us, []⟩ (us ++ ds) (vs ++ dvs) Q (E σ) hr I.env0 (hb s us I.kIn hl) r2 h) fun r s' hq => ?_)
  cases r with
  | error e => exact hx pins H s e s' I hq
  | ok fl =>
    cases fl with
    | ret u => exact I.after hq
    | next => exact False.elim hq
    | brk => exact False.elim hq
    | cont => exact False.elim hq
def tMethX (C : Addr) (m : Str) (sp : Sp) (dvs : List V) (E : L2.St → XK) (ta : TE) (t : TA) : TE := fun σ H Q => ta σ H fun x H1 => ∃ a dx fs, x = .ref a ∧ H1 a = some (.ins C dx fs) ∧ fs.lookup m = none ∧
  t σ H1 fun vs H2 => sp (x :: (vs ++ dvs)) H2 Q (E σ)
theorem pe_methX {pl : Sem Bool} (he : PE X o ta) (c : Cls X.K C) (hm : Meth X.K C m f) (F : FnOk X.prog X.w X.K X.mg X.base CX k f fd ps sp) (hr : Room k X.A) (hb : Binds X.K fd ps ds) (hd : Vals dvs ds) (hx : ∀ σ, PassesAt CX X σ (E σ)) (ha : PA X (e :: es) t)
    (hst : starEach (e :: es) X.env = (false, eval e X.env) :: starEach es X.env := by rfl) (hpl : (backTo pos (starEach es X.env)).any (·.1) = false := by rfl)
    (ht : eval (.Call (.Attribute o m apos) (e :: es) [] pos) X.env = (do
      let ov ← eval o X.env
      standAt apos.atName
      let (f, first) ← holding [ov] (getMethod ov m pl)
      callWith pos f first (backTo pos (starEach (e :: es) X.env)) (backToKw pos (keywordEach [] X.env))) := by rfl) :
    PE X (.Call (.Attribute o m apos) (e :: es) [] pos) (tMethX C m sp dvs E ta t) := by
  refine ⟨fun pins s σ H Q I h => ?_⟩
  refine PySem.W.methodCall_KW (pl := pl) (thn (he.run pins s σ H _ I h) fun u s1 ⟨x, H1, I1, rx, a, dx, fs, ex, ea, l, q⟩ => ?_) ht
  subst ex
  obtain rfl : u = Value.ref a := rx
  refine getmeth_ok I1 ea c hm l ?_
  refine PySem.W.callWith_K (first := [.ref a]) (h₀ := X.base) I.ok.mod.kin hm.kp (thn (ha.run pos pins s1 σ H1 _ I1 q) fun us s2 ⟨vs, H2, I2, r, q2⟩ => ⟨I2.kIn, ?_⟩) hst hpl
  exact run_fnX (us := .ref a :: us) (vs := .ref a :: vs) F hr hb hd (hx σ) I2 (.cons rfl r) q2
def tMakeX (C : Addr) (sp : Sp) (dvs : List V) (E : L2.St → XK) (t : TA) : TE := fun σ H Q => t σ H fun vs H1 => ∀ x dx, H1 x = none → H1 dx = none → dx ≠ x →
  sp (.ref x :: (vs ++ dvs)) (upd (upd H1 dx (.own x)) x (.ins C dx [])) (fun v H2 => v = .non ∧ Q (.ref x) H2) (E σ)
theorem run_makeX {pins : List (Addr × Obj)} {σ : L2.St} {H : Hp} {s : Shared} {Q : VK} {us : List Value} {vs : List V} (M : Mk X.K C f) (F : FnOk X.prog X.w X.K X.mg X.base CX k f fd ps sp) (hr : Room (k + 1) X.A) (hb : Binds X.K fd ps ds) (hd : Vals dvs ds)
    (hx : PassesAt CX X σ (E σ)) (I : Inv X pins σ H s) (r : Vals vs us)
    (h : ∀ x dx, H x = none → H dx = none → dx ≠ x → sp (.ref x :: (vs ++ dvs)) (upd (upd H dx (.own x)) x (.ins C dx [])) (fun v H2 => v = .non ∧ Q (.ref x) H2) (E σ)) :
    wpAny (model X.prog X.w) X.A (call (.ref C) us) (EP X pins σ Q) X.xe s := by
  have hq := h (s.heap.objs.size + 1) s.heap.objs.size (I.hok.fresh (Nat.le_succ _)) (I.hok.fresh (Nat.le_refl _)) (Nat.ne_of_lt (Nat.lt_succ_self _))
  have I2 := Inv.made (C := C) I
  have r2 : Vals (V.ref (s.heap.objs.size + 1) :: (vs ++ dvs)) (Value.ref (s.heap.objs.size + 1) :: (us ++ ds)) := .cons rfl (r.append hd)
  have hl : (Value.ref (s.heap.objs.size + 1) :: us ++ ds).length = ps.length := by
    have e := r2.length
    rw [F.len _ _ _ _ hq] at e
    exact e.symm
  refine wpAny_call (make_map (f := f) I.kIn M.makes M.init (beq_iff_eq.mp M.fn) (codeAny_mono (F.run _ X.stack _ _ ⟨Value.ref (s.heap.objs.size + 1) :: us, []⟩ (Value.ref (s.heap.objs.size + 1) :: (us ++ ds)) _ _ (E σ) (hr.make C us [])
    (I2.env0.make C us []) (hb _ (Value.ref (s.heap.objs.size + 1) :: us) I2.kIn hl) r2 hq) fun r s' hq' => ?_))
  cases r with
  | error e => exact hx pins _ _ e s' I2 hq'
  | ok fl =>
    cases fl with
    | ret u =>
      obtain ⟨v, H', I3, rv, ev, q3⟩ := I2.after hq'
      subst ev
      exact ⟨rv, ⟨V.ref (s.heap.objs.size + 1), H', I3, rfl, q3⟩⟩
    | next => exact False.elim hq'
    | brk => exact False.elim hq'
    | cont => exact False.elim hq'
theorem pe_makeX (M : Mk X.K C f) (F : FnOk X.prog X.w X.K X.mg X.base CX k f fd ps sp) (hr : Room (k + 1) X.A) (hg : Gl X x) (hm : X.mg x = some (.ref C)) (hb : Binds X.K fd ps ds) (hd : Vals dvs ds) (hx : ∀ σ, PassesAt CX X σ (E σ))
    (ha : PA X (e :: es) t) (hdb : (x == ("__debug__" : Str)) = false := by decide) (he : starEach (e :: es) X.env = (false, eval e X.env) :: starEach es X.env := by rfl) (hpl : (backTo pos (starEach es X.env)).any (·.1) = false := by rfl) :
    PE X (.Call (.Name x p) (e :: es) [] pos) (tMakeX C sp dvs E t) := by
  refine ⟨fun pins s σ H Q I h => ?_⟩
  refine wpAny_Call_Name_kw (ld_glob I hg hm ?_ hdb)
  refine PySem.W.callWith_K (h₀ := X.base) I.ok.mod.kin M.kp (thn (ha.run pos pins s σ H _ I h) fun us s1 ⟨vs, H1, I1, r, q⟩ => ⟨I1.kIn, ?_⟩) he hpl
  exact run_makeX M F hr hb hd (hx σ) I1 r q
end
/-- C.m is a static method: its record at p, its def at g -/
structure SMet (K : PySem.W.Frag) (C : Addr) (mc : Value) (m : Str) (p g : Addr) : Prop where
  rd : PySem.W.readsIn K C mc = true
  ga : PySem.W.specialIn K (.ref C) "__getattribute__" = some (some (.builtin "type.__getattribute__"))
  at_ : PySem.W.findCls K (.ref C) mc m = some (.get (.builtin "staticmethod.__get__") (.ref p) .none (.ref C))
  rc : ∃ rest, PySem.W.recIn K p "staticmethod" = some (.ref g :: rest)
  kp : PySem.W.keepIn K (.ref g) = true
section
variable {X : Cx} {CX : CXT} {k : Nat} {g p C : Addr} {mc : Value} {fd : FuncData} {ps : List Str} {sp : Sp} {dvs : List V} {ds : List Value} {E : XK} {m : Str} {pos apos : Pos} {e o : Expr} {es : List Expr} {ta : TE} {t : TA}
def tSMeth (C : Addr) (sp : Sp) (dvs : List V) (E : XK) (ta : TE) (t : TA) : TE := fun σ H Q => ta σ H fun x H1 => x = .ref C ∧ t σ H1 fun vs H2 => sp (vs ++ dvs) H2 Q E
theorem getsm_ok {pins : List (Addr × Obj)} {σ : L2.St} {H : Hp} {s : Shared} {A : Around} {E : Value → Shared → Prop} {pl : Sem Bool} {Q : Value × List Value → Shared → Prop} (I : Inv X pins σ H s) (r : SMet X.K C mc m p g)
    (h : ∀ s', Inv X pins σ H s' → Q (.ref g, []) s') : wpAny (model X.prog X.w) A (getMethod (.ref C) m pl) Q E s := by
  obtain ⟨rest, hp⟩ := r.rc
  refine PySem.W.method_cls I.kIn r.ga (PySem.W.cls_bind I.kIn r.rd r.at_ ?_)
  exact wpAny_call (PySem.W.sm_get (s := { s with toks := s.toks + 1 }) I.kIn hp (PySem.W.handed_on rfl (h _ (I.tok _))))
theorem pe_smeth {pl : Sem Bool} (he : PE X o ta) (c : SMet X.K C mc m p g) (F : FnOk X.prog X.w X.K X.mg X.base CX k g fd ps sp) (hr : Room k X.A) (hb : Binds X.K fd ps ds) (hd : Vals dvs ds) (hx : Passes CX X E) (ha : PA X (e :: es) t)
    (hst : starEach (e :: es) X.env = (false, eval e X.env) :: starEach es X.env := by rfl) (hpl : (backTo pos (starEach es X.env)).any (·.1) = false := by rfl)
    (ht : eval (.Call (.Attribute o m apos) (e :: es) [] pos) X.env = (do
      let ov ← eval o X.env
      standAt apos.atName
      let (f, first) ← holding [ov] (getMethod ov m pl)
      callWith pos f first (backTo pos (starEach (e :: es) X.env)) (backToKw pos (keywordEach [] X.env))) := by rfl) :
    PE X (.Call (.Attribute o m apos) (e :: es) [] pos) (tSMeth C sp dvs E ta t) := by
  refine ⟨fun pins s σ H Q I h => ?_⟩
  refine PySem.W.methodCall_KW (pl := pl) (thn (he.run pins s σ H _ I h) fun u s1 ⟨x, H1, I1, rx, ex, q⟩ => ?_) ht
  subst ex
  obtain rfl : u = Value.ref C := rx
  refine getsm_ok I1 c fun s2 I2 => ?_
  refine PySem.W.callWith_K (first := []) (h₀ := X.base) I.ok.mod.kin c.kp (thn (ha.run pos pins s2 σ H1 _ I2 q) fun us s3 ⟨vs, H2, I3, rv, q2⟩ => ⟨I3.kIn, ?_⟩) hst hpl
  exact run_fn F hr hb hd hx I3 rv q2
end
end Jv

/-! ### is True, is False of any thing; faults caught by one of two names -/
namespace Jv
open PySem PySem.Spec PyProof.Rows L2
/-- a is b, b True or False -/
def rIsT : R2 := fun x y H Q => ∃ b : Bool, y = .bl b ∧ Q (.bl (decide (x = .bl b))) H
theorem op_isT {X : Cx} : OpR X (compareOp .Is) rIsT := by
  intro pins s σ H x y v u Q I rx ry h
  obtain ⟨b, rfl, q⟩ := h
  cases (show u = Value.bool b from ry)
  by_cases e : x = .bl b
  · subst e
    cases (show v = Value.bool b from rx)
    exact wpAny_is_self rfl ⟨.bl true, H, I, rfl, by simpa using q⟩
  · have e2 : decide (x = .bl b) = false := decide_eq_false e
    rw [e2] at q
    refine wpAny_is_other ?_ ?_ ⟨.bl false, H, I, rfl, q⟩
    · cases x <;> first
        | (cases rx; rfl)
        | (obtain ⟨t, rfl⟩ := rx; rfl)
    · intro z
      cases x with
      | bl c => cases (show v = Value.bool c from rx); exact e (by cases z; rfl)
      | non => cases rx; cases z
      | int i => obtain ⟨t, rfl⟩ := rx; cases z
      | str i => obtain ⟨t, rfl⟩ := rx; cases z
      | byt i => obtain ⟨t, rfl⟩ := rx; cases z
      | flt i => obtain ⟨t, rfl⟩ := rx; cases z
      | ref a => cases (show v = Value.ref a from rx); cases z
      | ty a => cases (show v = Value.type a from rx); cases z
end Jv

/-! ### sequences that stand or are the program's own; walks, comprehensions over them; data's answers -/
namespace Jv
open PySem PySem.Spec PyProof.Rows L2
def Sk (K : PySem.W.Frag) (H : Hp) (x : V) (xs : List V) : Prop := ∃ a, x = .ref a ∧ (SqL K H a xs ∨ SqT K H a xs)
section
variable {K : PySem.W.Frag} {σ : L2.St} {H H' : Hp} {te : TE} {Q : VK} {xs : List V} {ds : List PyData} {j i : Nat} {x v : V} {d : PyData}
theorem Sk.same (h : Sk K H x xs) (s : Same H H') : Sk K H' x xs := by
  obtain ⟨a, rfl, h | h⟩ := h
  · exact ⟨a, rfl, .inl (s.seq h)⟩
  · exact ⟨a, rfl, .inr (Jv.Same.sqT s h)⟩
theorem Dv.sk (h : Dv K H v d) (e : seqD d = some ds) : ∃ xs, Sk K H v xs ∧ DvAll K H xs ds := by
  obtain ⟨a, xs, e1, e2, e3⟩ := h.seq e
  exact ⟨xs, ⟨a, e1, e2⟩, e3⟩
theorem Sk.len (h : Sk K H x xs) (q : Q (.int xs.length) H) : rLenK K [x] H Q := by
  obtain ⟨a, rfl, h⟩ := h
  exact r_len h q
theorem Sk.ix (h : Sk K H x xs) {k : Int} {v : V} (e : atI xs k = some v) (q : Q v H) : rIx K x (.int k) H Q := by
  obtain ⟨a, rfl, h | h⟩ := h
  · exact .inl (r_ixL h e q)
  · exact .inr (.inl (r_ixT h e q))
/-- over a name that holds a list or a tuple -/
theorem lcK (hv : σ[i]? = some (some x)) (hx : Sk K H x xs) (f : V → V) (few : xs.length ≤ 1000)
    (hs : ∀ v H1, v ∈ xs → Same H H1 → ∀ P : VK, (∀ H2, Same H1 H2 → P (f v) H2) → te ((σ.set j none).set j (some v)) H1 P)
    (hd : ∀ D H1, Same H H1 → H D = none → H1 D = some (.lst (xs.map f)) → Q (.ref D) H1) : tLc (fun σ H R => iList K (tVar i) σ H R ∨ iTup K (tVar i) σ H R) (gName j) tYes te [j] σ H Q := by
  obtain ⟨a, rfl, h | h⟩ := hx
  · exact .inl (lcL hv h f few hs hd)
  · exact .inr (lcT hv h f few hs hd)
theorem Sk.tup (h : Sk K H x xs) (q : ∀ (t : Addr) (H' : Hp), Same H H' → SqT K H' t xs → Q (.ref t) H') : rTupOf K [x] H Q := by
  obtain ⟨a, rfl, h | h⟩ := h
  · exact ⟨a, _, rfl, .inl ⟨h, fun l hl => q l _ (same_new hl) (sqT_at upd_same)⟩⟩
  · exact ⟨a, _, rfl, .inr ⟨h, q a _ (Same.refl _) h⟩⟩
end
def few1 (d : PyData) : Prop := ∀ ds, seqD d = some ds → ds.length ≤ 100
def few2 (d : PyData) : Prop := ∀ ds, seqD d = some ds → ds.length ≤ 100 ∧ ∀ e ∈ ds, few1 e
def few3 (d : PyData) : Prop := ∀ ds, seqD d = some ds → ds.length ≤ 100 ∧ ∀ e ∈ ds, few2 e
theorem DvAll.mem {K : PySem.W.Frag} {H : Hp} : ∀ {vs : List V} {ds : List PyData} {v : V}, DvAll K H vs ds → v ∈ vs → ∃ d ∈ ds, Dv K H v d
  | _, _, _, .nil, m => by cases m
  | _, _, _, .cons a b, m => by
    rcases List.mem_cons.mp m with rfl | m
    · exact ⟨_, List.mem_cons_self, a⟩
    · obtain ⟨d, h1, h2⟩ := DvAll.mem b m
      exact ⟨d, List.mem_cons_of_mem _ h1, h2⟩
theorem Dv.whole {K : PySem.W.Frag} {H : Hp} {v lo hi : V} {d : PyData} (h : Dv K H v d) : wholeV v lo hi = wholeD d lo hi := by
  cases h <;> rfl
/-- a function of things that goes by what they are -/
theorem DvAll.all {K : PySem.W.Frag} {H : Hp} {f : V → Bool} {g : PyData → Bool} (e : ∀ v d, Dv K H v d → f v = g d) : ∀ {vs : List V} {ds : List PyData}, DvAll K H vs ds → vs.all f = ds.all g
  | _, _, .nil => rfl
  | _, _, .cons a b => by rw [List.all_cons, List.all_cons, e _ _ a, DvAll.all e b]
def sidesD (d : PyData) : Bool := match seqD d with
  | some [.int p, .int q] => decide ((1 ≤ p ∧ p ≤ 6) ∧ (1 ≤ q ∧ q ≤ 6) ∧ p * q ≤ 12)
  | _ => false
def endsD (l : Int) (d : PyData) : Bool := match seqD d with
  | some ds => decide (0 < ds.length) && ds.all fun e => wholeD e (.int (-l)) (.int l)
  | none => false
def knowsD (d : PyData) : Bool := match seqD d with
  | some ds => decide (ds.length = 2) && ds.all boolD
  | none => false
theorem boolD_iff {K : PySem.W.Frag} {H : Hp} {v : V} {d : PyData} (h : Dv K H v d) : (decide (v = .bl true) || decide (v = .bl false)) = boolD d := by
  cases h with
  | bl b => cases b <;> rfl
  | _ => rfl
theorem wholeD_int {d : PyData} {l h : Int} : wholeD d (.int l) (.int h) = true → ∃ i, d = .int i ∧ l ≤ i ∧ i ≤ h := by
  intro q
  cases d with
  | int i => simp [wholeD, loOk, hiOk] at q; exact ⟨i, rfl, q⟩
  | _ => cases q
/-- how many lines, how long -/
def linesD (d : PyData) : Option (Nat × Nat) := match seqD d with
  | none => none
  | some ds => if ds.all (fun e => (seqD e).isSome) = true then
      match ds.map (fun e => ((seqD e).getD []).length) with
      | [] => none
      | n :: ns => if ns.all (fun m => decide (m = n)) = true then some (ns.length + 1, n) else none
    else none
end Jv

/-! ### comprehensions whose results are data; the lists under way hidden -/
namespace Jv
open PySem PySem.Spec PyProof.Rows L2
def hide (N : List Addr) (H : Hp) : Hp := fun b => if b ∈ N then none else H b
theorem hide_nil {H : Hp} : hide [] H = H := by funext b; simp [hide]
theorem hide_at {N : List Addr} {H : Hp} {b : Addr} {o : HO} (n : b ∉ N) (h : H b = some o) : hide N H b = some o := by unfold hide; rw [if_neg n]; exact h
theorem hide_some {N : List Addr} {H : Hp} {b : Addr} {o : HO} (h : hide N H b = some o) : b ∉ N ∧ H b = some o := by
  unfold hide at h
  by_cases n : b ∈ N
  · rw [if_pos n] at h; cases h
  · rw [if_neg n] at h; exact ⟨n, h⟩
theorem hide_le {N : List Addr} {H : Hp} : Same (hide N H) H := fun _ _ e => (hide_some e).2
theorem hide_same {N : List Addr} {H H' : Hp} (s : Same H H') : Same (hide N H) (hide N H') := fun _ _ e => hide_at (hide_some e).1 (s _ _ (hide_some e).2)
theorem hide_more {N : List Addr} {H H' : Hp} {D : Addr} (s : Same H H') (n : H D = none) : Same (hide N H) (hide (D :: N) H') := fun b o e => by
  obtain ⟨h1, h2⟩ := hide_some e
  refine hide_at (fun m => ?_) (s _ _ h2)
  rcases List.mem_cons.mp m with rfl | m
  · rw [n] at h2; cases h2
  · exact h1 m
theorem hide_less {N : List Addr} {H : Hp} {D : Addr} : Same (hide (D :: N) H) (hide N H) := fun b o e => by
  obtain ⟨h1, h2⟩ := hide_some e
  exact hide_at (fun m => h1 (List.mem_cons_of_mem _ m)) h2
theorem hide_upd {N : List Addr} {H : Hp} {D : Addr} {o : HO} : hide (D :: N) (upd H D o) = hide (D :: N) H := by
  funext b
  unfold hide
  by_cases m : b ∈ D :: N
  · rw [if_pos m, if_pos m]
  · rw [if_neg m, if_neg m]
    exact upd_ne fun e => m (by rw [e]; exact List.mem_cons_self)
def Held (N : List Addr) (H : Hp) : Prop := ∀ b ∈ N, ∃ o, H b = some o
theorem Held.nil {H : Hp} : Held [] H := fun _ h => by cases h
theorem Held.same {N : List Addr} {H H' : Hp} (h : Held N H) (s : Same H H') : Held N H' := fun b m => let ⟨o, e⟩ := h b m; ⟨o, s _ _ e⟩
theorem Held.cons {N : List Addr} {H : Hp} {D : Addr} {o : HO} (h : Held N H) (e : H D = some o) : Held (D :: N) H := fun b m => by
  rcases List.mem_cons.mp m with rfl | m
  · exact ⟨_, e⟩
  · exact h b m
theorem Held.new {N : List Addr} {H : Hp} {t : Addr} (h : Held N H) (n : H t = none) : t ∉ N := fun m => by
  obtain ⟨o, e⟩ := h t m
  rw [n] at e; cases e
section
variable {K : PySem.W.Frag} {σ : L2.St} {H : Hp} {te : TE} {tt : TT} {Q : VK} {xs : List V} {es : List PyData} {j i n : Nat} {x : V} {N : List Addr} {J : It} {G : Hp → Prop} {Y : Nat → Hp → V → Hp → Prop} {F : Nat → V → Prop}
theorem lcD (w : Walk J n G Y) (hG : ∀ H', Same H H' → G H') (hy : ∀ i H x H', i < n → Y i H x H' → H' = H ∧ F i x) (hN : Held N H) (es : List PyData) (hl : es.length = n) (few : n ≤ 1000)
    (hs : ∀ i v e D H1, i < n → F i v → es[i]? = some e → Same H H1 → Held (D :: N) H1 → H D = none → ∀ P : VK, (∀ y H2, Same H1 H2 → Dv K (hide (D :: N) H2) y e → P y H2) → te ((σ.set j none).set j (some v)) H1 P)
    (hd : ∀ D ys H1, Same H H1 → H D = none → H1 D = some (.lst ys) → DvAll K (hide N H1) ys es → DvAll K (hide (D :: N) H1) ys es → Q (.ref D) H1) : ∀ D, H D = none → ∃ W : Nat → Nat → Hp → Prop, (∃ m, W 0 m (upd H D (.lst []))) ∧ ∀ i m H, W i m H →
      (J.stop i H ∧ Q (.ref D) H) ∨ (J.go i H ∧ ∃ Nx : Hp → Prop, (∀ H', Nx H' → ∃ m', m' < m ∧ W (i + 1) m' H') ∧ ∀ x H', J.yld i H x H' → gName j x (wipe σ [j]) H' fun σ2 H2 => wipe σ2 [j] = wipe σ [j] ∧ tYes σ2 H2 fun b H3 =>
        if b = true then te σ2 H3 fun y H4 => ∃ acc, H4 D = some (.lst acc) ∧ acc.length < sizeLine ∧ Nx (upd H4 D (.lst (acc ++ [y]))) else Nx H3) := by
  intro D hD
  refine lc_it w (fun i H1 => Same H H1 ∧ ∃ ys, H1 D = some (.lst ys) ∧ DvAll K (hide (D :: N) H1) ys (es.take i)) ⟨same_new hD, [], upd_same, .nil⟩ (fun i H1 _ h => hG H1 h.1) ?_ ?_
  · rintro i x H1 H2 hi ⟨s1, ys, e1, al⟩ hx
    obtain ⟨e0, hF⟩ := hy i _ _ _ hi hx
    subst e0
    refine ⟨wipe1, ?_⟩
    refine r_yes ?_
    refine r_true (c := true) rfl ?_
    have hie : i < es.length := by omega
    have he := List.getElem?_eq_getElem hie
    refine hs i x _ D _ hi hF he s1 ((hN.same s1).cons e1) hD _ fun y H3 s3 dy => ⟨_, s3 _ _ e1, ?_, ?_, _, upd_same, ?_⟩
    · rw [al.len, List.length_take]; exact small_lt (by omega)
    · intro b o e; exact kpO (s3 _ _ (s1 b o e)) (ne_of_none e hD)
    · rw [hide_upd, take_more he]
      exact DvAll.snoc dy (al.same (hide_same s3))
  · rintro H1 ⟨s1, ys, e1, al⟩
    rw [List.take_of_length_le (by omega)] at al
    exact hd D ys H1 s1 hD e1 (al.same hide_less) al
theorem yat {xs : List V} : ∀ (i : Nat) (H : Hp) (x : V) (H' : Hp), i < xs.length → YAt xs i H x H' → H' = H ∧ xs[i]? = some x := fun _ _ _ _ _ h => h
theorem yfn {f : Nat → V} {n : Nat} : ∀ (i : Nat) (H : Hp) (x : V) (H' : Hp), i < n → YFn f i H x H' → H' = H ∧ x = f i := fun _ _ _ _ _ h => h
/-- over a name that holds a list or a tuple; the results' data by the data's -/
theorem lcS2 (hv : σ[i]? = some (some x)) (hx : Sk K H x xs) (hN : Held N H) (es : List PyData) (hl : es.length = xs.length) (few : xs.length ≤ 1000)
    (hs : ∀ i v e D H1, i < xs.length → xs[i]? = some v → es[i]? = some e → Same H H1 → Held (D :: N) H1 → H D = none → ∀ P : VK, (∀ y H2, Same H1 H2 → Dv K (hide (D :: N) H2) y e → P y H2) → te ((σ.set j none).set j (some v)) H1 P)
    (hd : ∀ D ys H1, Same H H1 → H D = none → H1 D = some (.lst ys) → DvAll K (hide N H1) ys es → DvAll K (hide (D :: N) H1) ys es → Q (.ref D) H1) : tLc (fun σ H R => iList K (tVar i) σ H R ∨ iTup K (tVar i) σ H R) (gName j) tYes te [j] σ H Q := by
  obtain ⟨a, rfl, h | h⟩ := hx
  · exact .inl ⟨_, hv, a, rfl, ⟨xs, h⟩, lcD walk_list (fun H' s => s.seq h) yat hN es hl few hs hd⟩
  · exact .inr ⟨_, hv, a, rfl, ⟨xs, h⟩, lcD walk_tup (fun H' s => Jv.Same.sqT s h) yat hN es hl few hs hd⟩
end
/-- results that are truths -/
theorem dv_bools {K : PySem.W.Frag} {H : Hp} : ∀ {ys : List V} {bs : List Bool}, DvAll K H ys (bs.map PyData.bool) → ys = bs.map V.bl
  | [], [], _ => rfl
  | _, b :: bs, .cons (.bl _) r => by rw [dv_bools r]; rfl
theorem dv_intsV {K : PySem.W.Frag} {H : Hp} : ∀ {ys : List V} {ns : List Int}, DvAll K H ys (ns.map PyData.int) → ys = ns.map V.int
  | [], [], _ => rfl
  | _, b :: bs, .cons (.int _) r => by rw [dv_intsV r]; rfl
end Jv

/-! ### comprehensions of two walks over data -/
namespace Jv
open PySem PySem.Spec PyProof.Rows L2
def rowG (g : PyData → PyData) (r : PyData) : List PyData := ((seqD r).getD []).map g
def upTo (g : PyData → PyData) (ds : List PyData) (m n : Nat) : List PyData := (ds.take m).flatMap (rowG g) ++ (((ds[m]?.map (rowG g)).getD []).take n)
theorem upTo_more {g : PyData → PyData} {ds : List PyData} {m n : Nat} {r d : PyData} {l : List PyData} (hr : ds[m]? = some r) (hl : seqD r = some l) (hd : l[n]? = some d) : upTo g ds m (n + 1) = upTo g ds m n ++ [g d] := by
  unfold upTo
  rw [hr, List.append_assoc]
  congr 1
  show (rowG g r).take (n + 1) = (rowG g r).take n ++ [g d]
  refine take_more ?_
  unfold rowG
  rw [hl]
  show (l.map g)[n]? = _
  rw [List.getElem?_map, hd]; rfl
theorem upTo_next {g : PyData → PyData} {ds : List PyData} {m : Nat} {r : PyData} {l : List PyData} (hr : ds[m]? = some r) (hl : seqD r = some l) : upTo g ds m l.length = upTo g ds (m + 1) 0 := by
  unfold upTo
  rw [hr, take_more hr, List.flatMap_append]
  have : (rowG g r).take l.length = rowG g r := by
    unfold rowG; rw [hl]
    exact List.take_of_length_le (by show (l.map g).length ≤ _; rw [List.length_map]; exact Nat.le_refl _)
  show _ ++ (rowG g r).take l.length = _
  rw [this]
  simp
theorem upTo_end {g : PyData → PyData} {ds : List PyData} : upTo g ds ds.length 0 = ds.flatMap (rowG g) := by
  unfold upTo
  simp
theorem flat_len {f : PyData → List PyData} : ∀ {l : List PyData}, (∀ e ∈ l, (f e).length ≤ 100) → (l.flatMap f).length ≤ l.length * 100
  | [], _ => by simp
  | a :: r, h => by
    have h1 := h a List.mem_cons_self
    have h2 := flat_len (l := r) fun e m => h e (List.mem_cons_of_mem _ m)
    rw [List.flatMap_cons, List.length_append, List.length_cons, Nat.succ_mul]; omega
section
variable {K : PySem.W.Frag} {σ : L2.St} {H : Hp} {te : TE} {Q : VK} {xs : List V} {ds : List PyData} {i a b : Nat} {x : V} {N : List Addr}
theorem lc2W {J : It} {G : Hp → Prop} (w : Walk J xs.length G (YAt xs)) (hG : ∀ H', Same H H' → G H') (al : DvAll K H xs ds) (hN : Held N H) (g : PyData → PyData)
    (hq : ∀ e ∈ ds, ∃ l, seqD e = some l ∧ l.length ≤ 100) (few : ds.length ≤ 100)
    (w1 : ∀ v, wipe ((wipe σ [a, b]).set a (some v)) [a, b] = wipe σ [a, b])
    (w2 : ∀ v u, wipe ((wipe ((wipe σ [a, b]).set a (some v)) [b]).set b (some u)) [b] = wipe ((wipe σ [a, b]).set a (some v)) [b])
    (ha : ∀ v, ((wipe σ [a, b]).set a (some v))[a]? = some (some v))
    (hs : ∀ v u d D H1, Dv K H1 u d → (∃ e ∈ ds, ∃ l, seqD e = some l ∧ d ∈ l) → Same H H1 → Held (D :: N) H1 → H D = none → ∀ P : VK, (∀ y H2, Same H1 H2 → Dv K (hide (D :: N) H2) y (g d) → P y H2) → te ((wipe ((wipe σ [a, b]).set a (some v)) [b]).set b (some u)) H1 P)
    (hd : ∀ D ys H1, Same H H1 → H D = none → H1 D = some (.lst ys) → DvAll K (hide N H1) ys (ds.flatMap (rowG g)) → Q (.ref D) H1) :
    ∀ D, H D = none → ∃ W : Nat → Nat → Hp → Prop, (∃ m, W 0 m (upd H D (.lst []))) ∧ ∀ i m H, W i m H →
      (J.stop i H ∧ Q (.ref D) H) ∨ (J.go i H ∧ ∃ Nx : Hp → Prop, (∀ H', Nx H' → ∃ m', m' < m ∧ W (i + 1) m' H') ∧ ∀ x H', J.yld i H x H' → gName a x (wipe σ [a, b]) H' fun σ2 H2 => wipe σ2 [a, b] = wipe σ [a, b] ∧ tYes σ2 H2 fun c H3 =>
        if c = true then (iList K (tVar a) σ2 H3 fun J1 H4 => ∃ W1 : Nat → Nat → Hp → Prop, (∃ m, W1 0 m H4) ∧ ∀ j k H, W1 j k H →
          (J1.stop j H ∧ Nx H) ∨ (J1.go j H ∧ ∃ Nx1 : Hp → Prop, (∀ H', Nx1 H' → ∃ k', k' < k ∧ W1 (j + 1) k' H') ∧ ∀ x H', J1.yld j H x H' → gName b x (wipe σ2 [b]) H' fun σ3 H5 => wipe σ3 [b] = wipe σ2 [b] ∧ tYes σ3 H5 fun c H6 =>
            if c = true then te σ3 H6 fun y H7 => ∃ acc, H7 D = some (.lst acc) ∧ acc.length < sizeLine ∧ Nx1 (upd H7 D (.lst (acc ++ [y]))) else Nx1 H6)) ∨ (iTup K (tVar a) σ2 H3 fun J1 H4 => ∃ W1 : Nat → Nat → Hp → Prop, (∃ m, W1 0 m H4) ∧ ∀ j k H, W1 j k H →
          (J1.stop j H ∧ Nx H) ∨ (J1.go j H ∧ ∃ Nx1 : Hp → Prop, (∀ H', Nx1 H' → ∃ k', k' < k ∧ W1 (j + 1) k' H') ∧ ∀ x H', J1.yld j H x H' → gName b x (wipe σ2 [b]) H' fun σ3 H5 => wipe σ3 [b] = wipe σ2 [b] ∧ tYes σ3 H5 fun c H6 =>
            if c = true then te σ3 H6 fun y H7 => ∃ acc, H7 D = some (.lst acc) ∧ acc.length < sizeLine ∧ Nx1 (upd H7 D (.lst (acc ++ [y]))) else Nx1 H6))
        else Nx H3) := by
  intro D hD
  have hlen := al.len
  have bound : ∀ m n, (upTo g ds m n).length < 20000 := by
    intro m n
    unfold upTo
    rw [List.length_append, List.length_take]
    have row : ∀ e ∈ ds, (rowG g e).length ≤ 100 := fun e he => by
      obtain ⟨l, h1, h2⟩ := hq e he
      unfold rowG; rw [h1]; show (l.map g).length ≤ 100; rw [List.length_map]; exact h2
    have h1 := flat_len (f := rowG g) (l := ds.take m) fun e he => row e (List.mem_of_mem_take he)
    have h2 : (ds.take m).length ≤ 100 := by rw [List.length_take]; omega
    have h3 : ((ds[m]?.map (rowG g)).getD []).length ≤ 100 := by
      cases e : ds[m]? with
      | none => simp
      | some r => exact row r (List.mem_of_getElem? e)
    omega
  refine ⟨fun m k H1 => k = xs.length - m ∧ m ≤ xs.length ∧ Same H H1 ∧ ∃ ys, H1 D = some (.lst ys) ∧ DvAll K (hide (D :: N) H1) ys (upTo g ds m 0), ⟨xs.length, by omega, by omega, same_new hD, [], upd_same, by unfold upTo; simp; exact .nil⟩, ?_⟩
  rintro m k H1 ⟨rfl, hm, s1, ys, e1, dv⟩
  by_cases lt : m < xs.length
  · refine .inr ⟨w.goes m H1 lt (hG _ s1), fun H' => Same H H' ∧ ∃ ys, H' D = some (.lst ys) ∧ DvAll K (hide (D :: N) H') ys (upTo g ds (m + 1) 0), fun H' h => ⟨xs.length - (m + 1), by omega, rfl, lt, h⟩, ?_⟩
    rintro v H2 hv0
    obtain ⟨e2, hv⟩ := w.yields m H1 v H2 lt (hG _ s1) hv0
    subst e2
    obtain ⟨r, hr, dr⟩ := al.at hv
    have hrm := List.mem_of_getElem? hr
    obtain ⟨l, hl, fl⟩ := hq r hrm
    refine ⟨w1 _, r_yes (r_true (c := true) rfl ?_)⟩
    obtain ⟨us, ⟨p, ep, hp⟩, du⟩ := dr.sk hl
    subst ep
    have hul := du.len
    have core : ∀ (J1 : It) (G1 : Hp → Prop), Walk J1 us.length G1 (YAt us) → (∀ H', Same H H' → G1 H') → ∃ W1 : Nat → Nat → Hp → Prop, (∃ m, W1 0 m H2) ∧ ∀ j k H5, W1 j k H5 →
        (J1.stop j H5 ∧ (Same H H5 ∧ ∃ ys, H5 D = some (.lst ys) ∧ DvAll K (hide (D :: N) H5) ys (upTo g ds (m + 1) 0))) ∨ (J1.go j H5 ∧ ∃ Nx1 : Hp → Prop, (∀ H', Nx1 H' → ∃ k', k' < k ∧ W1 (j + 1) k' H') ∧ ∀ x H', J1.yld j H5 x H' → gName b x (wipe ((wipe σ [a, b]).set a (some (.ref p))) [b]) H' fun σ3 H5 => wipe σ3 [b] = wipe ((wipe σ [a, b]).set a (some (.ref p))) [b] ∧ tYes σ3 H5 fun c H6 =>
          if c = true then te σ3 H6 fun y H7 => ∃ acc, H7 D = some (.lst acc) ∧ acc.length < sizeLine ∧ Nx1 (upd H7 D (.lst (acc ++ [y]))) else Nx1 H6) := by
      intro J1 G1 wk hG1
      refine ⟨fun j k H5 => k = us.length - j ∧ j ≤ us.length ∧ Same H H5 ∧ ∃ ys, H5 D = some (.lst ys) ∧ DvAll K (hide (D :: N) H5) ys (upTo g ds m j), ⟨us.length, by omega, by omega, s1, ys, e1, dv⟩, ?_⟩
      rintro j k H5 ⟨rfl, hj, s5, zs, e5, dz⟩
      by_cases lt2 : j < us.length
      · refine .inr ⟨wk.goes j H5 lt2 (hG1 _ s5), fun H' => Same H H' ∧ ∃ ys, H' D = some (.lst ys) ∧ DvAll K (hide (D :: N) H') ys (upTo g ds m (j + 1)), fun H' h => ⟨us.length - (j + 1), by omega, rfl, lt2, h⟩, ?_⟩
        rintro u H6 hu0
        obtain ⟨e6, hu⟩ := wk.yields j H5 u H6 lt2 (hG1 _ s5) hu0
        subst e6
        obtain ⟨d, hd1, dd⟩ := du.at hu
        refine ⟨w2 _ _, r_yes (r_true (c := true) rfl ?_)⟩
        refine hs _ _ d D _ (dd.same s5) ⟨r, hrm, l, hl, List.mem_of_getElem? hd1⟩ s5 ((hN.same s5).cons e5) hD _ fun y H7 s7 dy => ⟨_, s7 _ _ e5, ?_, ?_, _, upd_same, ?_⟩
        · rw [dz.len]
          exact Nat.lt_of_lt_of_le (bound m j) (by decide)
        · intro c o hc; exact kpO (s7 _ _ (s5 c o hc)) (ne_of_none hc hD)
        · rw [hide_upd, upTo_more hr hl hd1]
          exact DvAll.snoc dy (dz.same (hide_same s7))
      · have ej : j = l.length := by omega
        subst ej
        refine .inl ⟨by rw [← hul]; exact wk.stops H5 (hG1 _ s5), s5, zs, e5, ?_⟩
        rw [← upTo_next hr hl]; exact dz
    rcases hp with hp | hp
    · exact .inl ⟨_, ha _, p, rfl, ⟨us, s1.seq hp⟩, core _ _ walk_list fun H' s => s.seq hp⟩
    · exact .inr ⟨_, ha _, p, rfl, ⟨us, Jv.Same.sqT s1 hp⟩, core _ _ walk_tup fun H' s => Jv.Same.sqT s hp⟩
  · have em : m = xs.length := by omega
    subst em
    refine .inl ⟨w.stops H1 (hG _ s1), hd D ys H1 s1 hD e1 ?_⟩
    rw [hlen, upTo_end] at dv
    exact dv.same hide_less
theorem lc2D (hv : σ[i]? = some (some x)) (hx : Sk K H x xs) (al : DvAll K H xs ds) (hN : Held N H) (g : PyData → PyData)
    (hq : ∀ e ∈ ds, ∃ l, seqD e = some l ∧ l.length ≤ 100) (few : ds.length ≤ 100)
    (w1 : ∀ v, wipe ((wipe σ [a, b]).set a (some v)) [a, b] = wipe σ [a, b])
    (w2 : ∀ v u, wipe ((wipe ((wipe σ [a, b]).set a (some v)) [b]).set b (some u)) [b] = wipe ((wipe σ [a, b]).set a (some v)) [b])
    (ha : ∀ v, ((wipe σ [a, b]).set a (some v))[a]? = some (some v))
    (hs : ∀ v u d D H1, Dv K H1 u d → (∃ e ∈ ds, ∃ l, seqD e = some l ∧ d ∈ l) → Same H H1 → Held (D :: N) H1 → H D = none → ∀ P : VK, (∀ y H2, Same H1 H2 → Dv K (hide (D :: N) H2) y (g d) → P y H2) → te ((wipe ((wipe σ [a, b]).set a (some v)) [b]).set b (some u)) H1 P)
    (hd : ∀ D ys H1, Same H H1 → H D = none → H1 D = some (.lst ys) → DvAll K (hide N H1) ys (ds.flatMap (rowG g)) → Q (.ref D) H1) :
    tLc2 (fun σ H R => iList K (tVar i) σ H R ∨ iTup K (tVar i) σ H R) (gName a) tYes (fun σ H R => iList K (tVar a) σ H R ∨ iTup K (tVar a) σ H R) (gName b) tYes te [a, b] [b] σ H Q := by
  obtain ⟨p, rfl, h | h⟩ := hx
  · exact .inl ⟨_, hv, p, rfl, ⟨xs, h⟩, lc2W walk_list (fun H' s => s.seq h) al hN g hq few w1 w2 ha hs hd⟩
  · exact .inr ⟨_, hv, p, rfl, ⟨xs, h⟩, lc2W walk_tup (fun H' s => Jv.Same.sqT s h) al hN g hq few w1 w2 ha hs hd⟩
end
end Jv

/-! ### data beside an object's change; readings of fields -/
namespace Jv
open PySem PySem.Spec PyProof.Rows L2
section
variable {K : PySem.W.Frag} {H : Hp} {a C dx : Addr} {fs : List (Str × V)} {o : HO}
theorem SqT.ins (ha : H a = some (.ins C dx fs)) {b : Addr} {xs : List V} (h : SqT K H b xs) : SqT K (upd H a o) b xs := by
  rcases h with (h | ⟨u, h⟩) | h
  · exact .inl (.inl (kpO h fun e => by rw [e, ha] at h; cases h))
  · exact .inl (.inr ⟨u, kpO h fun e => by rw [e, ha] at h; cases h⟩)
  · exact .inr h
mutual
theorem Dv.ins (ha : H a = some (.ins C dx fs)) : ∀ {v : V} {d : PyData}, Dv K H v d → Dv K (upd H a o) v d
  | _, _, .non => .non
  | _, _, .bl b => .bl b
  | _, _, .int i => .int i
  | _, _, .str x => .str x
  | _, _, .lst h q => .lst (kpO h fun e => by rw [e, ha] at h; cases h) (DvAll.ins ha q)
  | _, _, .tup h q => .tup (Jv.SqT.ins ha h) (DvAll.ins ha q)
theorem DvAll.ins (ha : H a = some (.ins C dx fs)) : ∀ {vs : List V} {ds : List PyData}, DvAll K H vs ds → DvAll K (upd H a o) vs ds
  | _, _, .nil => .nil
  | _, _, .cons x y => .cons (Dv.ins ha x) (DvAll.ins ha y)
end
theorem r_sfld {ta tv : TE} {f : Str} {D : Ends} {σ : L2.St} (h : tv σ H fun y H1 => ta σ H1 fun x H2 => ∃ a C dx fs, x = .ref a ∧ H2 a = some (.ins C dx fs) ∧ Cls K C ∧ NoAttr K C f ∧ fs.length < 1000 ∧
  D.nx σ (upd H2 a (.ins C dx (putF f y fs)))) : sFld K ta tv f D σ H := h
theorem r_fld {ta : TE} {f : Str} {σ : L2.St} {Q : VK} (h : ta σ H fun x H1 => ∃ a C dx fs v, x = .ref a ∧ H1 a = some (.ins C dx fs) ∧ Cls K C ∧ NoAttr K C f ∧ fs.lookup f = some v ∧ Q v H1) : tFld K ta f σ H Q := h
end
/-- a new tuple of data -/
theorem dv_new {K : PySem.W.Frag} {H : Hp} {N : List Addr} {t : Addr} {xs : List V} {ds : List PyData} (n : H t = none) (hN : Held N H) (h : DvAll K (hide N H) xs ds) : Dv K (hide N (upd H t (.tup xs))) (.ref t) (.tuple ds) :=
  .tup (sqT_at (hide_at (hN.new n) upd_same)) (h.same (hide_same (same_new n)))
theorem dv_newL {K : PySem.W.Frag} {H : Hp} {N : List Addr} {t : Addr} {xs : List V} {ds : List PyData} (n : H t = none) (hN : Held N H) (h : DvAll K (hide N H) xs ds) : Dv K (hide N (upd H t (.lst xs))) (.ref t) (.list ds) :=
  .lst (hide_at (hN.new n) upd_same) (h.same (hide_same (same_new n)))
end Jv

/-! ### comprehensions over what an expression gives; filters of numbers -/
namespace Jv
open PySem PySem.Spec PyProof.Rows L2
section
variable {K : PySem.W.Frag} {σ : L2.St} {H : Hp} {te te0 : TE} {tt : TT} {Q : VK} {xs : List V} {es : List PyData} {j i n : Nat} {x : V} {N : List Addr}
theorem lcS3 (hit : ∀ P : VK, P x H → te0 σ H P) (hx : Sk K H x xs) (hN : Held N H) (es : List PyData) (hl : es.length = xs.length) (few : xs.length ≤ 1000)
    (hs : ∀ i v e D H1, i < xs.length → xs[i]? = some v → es[i]? = some e → Same H H1 → Held (D :: N) H1 → H D = none → ∀ P : VK, (∀ y H2, Same H1 H2 → Dv K (hide (D :: N) H2) y e → P y H2) → te ((σ.set j none).set j (some v)) H1 P)
    (hd : ∀ D ys H1, Same H H1 → H D = none → H1 D = some (.lst ys) → DvAll K (hide N H1) ys es → DvAll K (hide (D :: N) H1) ys es → Q (.ref D) H1) : tLc (fun σ H R => iList K te0 σ H R ∨ iTup K te0 σ H R) (gName j) tYes te [j] σ H Q := by
  obtain ⟨a, rfl, h | h⟩ := hx
  · exact .inl (hit _ ⟨a, rfl, ⟨xs, h⟩, lcD walk_list (fun H' s => s.seq h) yat hN es hl few hs hd⟩)
  · exact .inr (hit _ ⟨a, rfl, ⟨xs, h⟩, lcD walk_tup (fun H' s => Jv.Same.sqT s h) yat hN es hl few hs hd⟩)
theorem filter_more {f : Int → Bool} {ns : List Int} {i : Nat} {z : Int} (h : ns[i]? = some z) : (ns.take (i + 1)).filter f = (ns.take i).filter f ++ if f z = true then [z] else [] := by
  rw [take_more h, List.filter_append]
  congr 1
  by_cases c : f z = true
  · simp [c]
  · simp [c]
/-- the numbers of a list or a tuple at which a test holds -/
theorem lcFW {J : It} {G : Hp → Prop} {ns : List Int} (w : Walk J (ns.map V.int).length G (YAt (ns.map V.int))) (hG : ∀ H', Same H H' → G H') (f : Int → Bool) (few : ns.length ≤ 1000)
    (ht : ∀ z H1, z ∈ ns → Same H H1 → ∀ R : Bool → Hp → Prop, (∀ H2, Same H1 H2 → R (f z) H2) → tt ((σ.set j none).set j (some (.int z))) H1 R)
    (hs : ∀ z H1, ∀ P : VK, P (.int z) H1 → te ((σ.set j none).set j (some (.int z))) H1 P)
    (hd : ∀ D H1, Same H H1 → H D = none → H1 D = some (.lst ((ns.filter f).map V.int)) → Q (.ref D) H1) : ∀ D, H D = none → ∃ W : Nat → Nat → Hp → Prop, (∃ m, W 0 m (upd H D (.lst []))) ∧ ∀ i m H, W i m H →
      (J.stop i H ∧ Q (.ref D) H) ∨ (J.go i H ∧ ∃ Nx : Hp → Prop, (∀ H', Nx H' → ∃ m', m' < m ∧ W (i + 1) m' H') ∧ ∀ x H', J.yld i H x H' → gName j x (wipe σ [j]) H' fun σ2 H2 => wipe σ2 [j] = wipe σ [j] ∧ tt σ2 H2 fun b H3 =>
        if b = true then te σ2 H3 fun y H4 => ∃ acc, H4 D = some (.lst acc) ∧ acc.length < sizeLine ∧ Nx (upd H4 D (.lst (acc ++ [y]))) else Nx H3) := by
  intro D hD
  refine lc_it w (fun i H1 => Same H H1 ∧ H1 D = some (.lst (((ns.take i).filter f).map V.int))) ⟨same_new hD, upd_same⟩ (fun i H1 _ h => hG H1 h.1) ?_ ?_
  · rintro i x H1 H2 hi ⟨s1, e1⟩ ⟨e0, hx⟩
    subst e0
    obtain ⟨z, hz, rfl⟩ := map_at hx
    refine ⟨wipe1, ht z _ (List.mem_of_getElem? hz) s1 _ fun H3 s3 => ?_⟩
    have e3 := s3 _ _ e1
    by_cases c : f z = true
    · rw [if_pos c]
      refine hs z H3 _ ⟨_, e3, ?_, fun b o e => kpO (s3 _ _ (s1 b o e)) (ne_of_none e hD), ?_⟩
      · rw [List.length_map]
        refine small_lt (Nat.lt_of_le_of_lt (List.length_filter_le _ _) ?_)
        rw [List.length_map] at hi
        rw [List.length_take]; omega
      · rw [upd_same, filter_more hz, if_pos c, List.map_append]; rfl
    · rw [if_neg c]
      refine ⟨s1.trans s3, ?_⟩
      rw [filter_more hz, if_neg c, List.append_nil]; exact e3
  · rintro H1 ⟨s1, e1⟩
    rw [List.length_map, List.take_length] at e1
    exact hd D H1 s1 hD e1
theorem lcF2 {ns : List Int} (hv : σ[i]? = some (some x)) (hx : Sk K H x (ns.map V.int)) (f : Int → Bool) (few : ns.length ≤ 1000)
    (ht : ∀ z H1, z ∈ ns → Same H H1 → ∀ R : Bool → Hp → Prop, (∀ H2, Same H1 H2 → R (f z) H2) → tt ((σ.set j none).set j (some (.int z))) H1 R)
    (hs : ∀ z H1, ∀ P : VK, P (.int z) H1 → te ((σ.set j none).set j (some (.int z))) H1 P)
    (hd : ∀ D H1, Same H H1 → H D = none → H1 D = some (.lst ((ns.filter f).map V.int)) → Q (.ref D) H1) : tLc (fun σ H R => iList K (tVar i) σ H R ∨ iTup K (tVar i) σ H R) (gName j) tt te [j] σ H Q := by
  obtain ⟨a, rfl, h | h⟩ := hx
  · exact .inl ⟨_, hv, a, rfl, ⟨_, h⟩, lcFW walk_list (fun H' s => s.seq h) f few ht hs hd⟩
  · exact .inr ⟨_, hv, a, rfl, ⟨_, h⟩, lcFW walk_tup (fun H' s => Jv.Same.sqT s h) f few ht hs hd⟩
end
end Jv

/-! ### comprehensions whose results are lists of the program's own -/
namespace Jv
open PySem PySem.Spec PyProof.Rows L2
section
variable {K : PySem.W.Frag} {σ : L2.St} {H : Hp} {te te0 : TE} {tt : TT} {Q : VK} {xs : List V} {j n : Nat} {x : V} {J : It} {G : Hp → Prop} {Y : Nat → Hp → V → Hp → Prop} {Fx : Nat → V → Prop} {F : Nat → List V}
theorem lcOwnD (w : Walk J n G Y) (hG : ∀ H', Same H H' → G H') (hy : ∀ i H x H', i < n → Y i H x H' → H' = H ∧ Fx i x) (F : Nat → List V) (few : n ≤ 1000)
    (hs : ∀ i v D H1, i < n → Fx i v → Same H H1 → H D = none → ∀ P : VK, (∀ t H2, H1 t = none → Same H1 H2 → H2 t = some (.lst (F i)) → P (.ref t) H2) → te ((σ.set j none).set j (some v)) H1 P)
    (hd : ∀ D (As : List Addr) H1, Same H H1 → H D = none → As.length = n → As.Nodup → D ∉ As → (∀ b ∈ As, H b = none) → H1 D = some (.lst (As.map V.ref)) → (∀ (k : Nat) b, As[k]? = some b → H1 b = some (.lst (F k))) → Q (.ref D) H1) : ∀ D, H D = none → ∃ W : Nat → Nat → Hp → Prop, (∃ m, W 0 m (upd H D (.lst []))) ∧ ∀ i m H, W i m H →
      (J.stop i H ∧ Q (.ref D) H) ∨ (J.go i H ∧ ∃ Nx : Hp → Prop, (∀ H', Nx H' → ∃ m', m' < m ∧ W (i + 1) m' H') ∧ ∀ x H', J.yld i H x H' → gName j x (wipe σ [j]) H' fun σ2 H2 => wipe σ2 [j] = wipe σ [j] ∧ tYes σ2 H2 fun b H3 =>
        if b = true then te σ2 H3 fun y H4 => ∃ acc, H4 D = some (.lst acc) ∧ acc.length < sizeLine ∧ Nx (upd H4 D (.lst (acc ++ [y]))) else Nx H3) := by
  intro D hD
  refine lc_it w (fun i H1 => Same H H1 ∧ ∃ As : List Addr, As.length = i ∧ As.Nodup ∧ D ∉ As ∧ (∀ b ∈ As, H b = none) ∧ H1 D = some (.lst (As.map V.ref)) ∧ ∀ (k : Nat) b, As[k]? = some b → H1 b = some (.lst (F k)))
    ⟨same_new hD, [], rfl, List.nodup_nil, List.not_mem_nil, fun b m => (by cases m), upd_same, fun k b e => (by simp at e)⟩ (fun i H1 _ h => hG H1 h.1) ?_ ?_
  · rintro i x H1 H2 hi ⟨s1, As, e0, nd, nD, hn, e1, al⟩ hx
    obtain ⟨e2, hF⟩ := hy i _ _ _ hi hx
    subst e2
    refine ⟨wipe1, ?_⟩
    refine r_yes ?_
    refine r_true (c := true) rfl ?_
    refine hs i x D _ hi hF s1 hD _ fun t H3 ht s3 et => ?_
    have htA : t ∉ As := fun m => by
      obtain ⟨k, hk, e⟩ := List.getElem_of_mem m
      have := al k t (by rw [List.getElem?_eq_getElem hk, e])
      rw [ht] at this; cases this
    have htD : t ≠ D := fun e => by rw [e, e1] at ht; cases ht
    have htH : H t = none := s1.free ht
    refine ⟨_, s3 _ _ e1, ?_, fun b o e => kpO (s3 _ _ (s1 b o e)) (ne_of_none e hD), As ++ [t], by rw [List.length_append, e0]; rfl, ?_, ?_, ?_, by rw [upd_same, List.map_append]; rfl, ?_⟩
    · rw [List.length_map, e0]; exact small_lt (by omega)
    · refine List.nodup_append.mpr ⟨nd, by simp, fun a ha b hb => ?_⟩
      rw [List.mem_singleton.mp hb]
      exact fun e => htA (e ▸ ha)
    · intro m
      rcases List.mem_append.mp m with m | m
      · exact nD m
      · exact htD (List.mem_singleton.mp m).symm
    · intro b m
      rcases List.mem_append.mp m with m | m
      · exact hn b m
      · rw [List.mem_singleton.mp m]; exact htH
    · intro k b e
      have nb : b ≠ D := fun eb => by
        rw [eb] at e
        rcases List.mem_append.mp (List.mem_of_getElem? e) with m | m
        · exact nD m
        · exact htD (List.mem_singleton.mp m).symm
      rw [upd_ne nb]
      by_cases hk : k < As.length
      · rw [List.getElem?_append_left hk] at e
        exact s3 _ _ (al k b e)
      · have h2 := (List.getElem?_eq_some_iff.mp e).1
        rw [List.length_append] at h2
        have h3 : k = As.length := by simp at h2; omega
        subst h3
        rw [List.getElem?_append_right (Nat.le_refl _), Nat.sub_self] at e
        cases e
        rw [e0]; exact et
  · rintro H1 ⟨s1, As, e0, nd, nD, hn, e1, al⟩
    exact hd D As H1 s1 hD e0 nd nD hn e1 al
/-- over what an expression gives -/
theorem lcOwn (hit : ∀ P : VK, P x H → te0 σ H P) (hx : Sk K H x xs) (F : Nat → List V) (few : xs.length ≤ 1000)
    (hs : ∀ i v D H1, i < xs.length → xs[i]? = some v → Same H H1 → H D = none → ∀ P : VK, (∀ t H2, H1 t = none → Same H1 H2 → H2 t = some (.lst (F i)) → P (.ref t) H2) → te ((σ.set j none).set j (some v)) H1 P)
    (hd : ∀ D (As : List Addr) H1, Same H H1 → H D = none → As.length = xs.length → As.Nodup → D ∉ As → (∀ b ∈ As, H b = none) → H1 D = some (.lst (As.map V.ref)) → (∀ (k : Nat) b, As[k]? = some b → H1 b = some (.lst (F k))) → Q (.ref D) H1) : tLc (fun σ H R => iList K te0 σ H R ∨ iTup K te0 σ H R) (gName j) tYes te [j] σ H Q := by
  obtain ⟨a, rfl, h | h⟩ := hx
  · exact .inl (hit _ ⟨a, rfl, ⟨xs, h⟩, lcOwnD walk_list (fun H' s => s.seq h) yat F few hs hd⟩)
  · exact .inr (hit _ ⟨a, rfl, ⟨xs, h⟩, lcOwnD walk_tup (fun H' s => Jv.Same.sqT s h) yat F few hs hd⟩)
theorem lcOwn2 {i : Nat} (hv : σ[i]? = some (some x)) (hx : Sk K H x xs) (F : Nat → List V) (few : xs.length ≤ 1000)
    (hs : ∀ i v D H1, i < xs.length → xs[i]? = some v → Same H H1 → H D = none → ∀ P : VK, (∀ t H2, H1 t = none → Same H1 H2 → H2 t = some (.lst (F i)) → P (.ref t) H2) → te ((σ.set j none).set j (some v)) H1 P)
    (hd : ∀ D (As : List Addr) H1, Same H H1 → H D = none → As.length = xs.length → As.Nodup → D ∉ As → (∀ b ∈ As, H b = none) → H1 D = some (.lst (As.map V.ref)) → (∀ (k : Nat) b, As[k]? = some b → H1 b = some (.lst (F k))) → Q (.ref D) H1) : tLc (fun σ H R => iList K (tVar i) σ H R ∨ iTup K (tVar i) σ H R) (gName j) tYes te [j] σ H Q :=
  lcOwn (fun P hP => ⟨_, hv, hP⟩) hx F few hs hd
end
/-- data, item by item -/
theorem dvAll_mk {K : PySem.W.Frag} {H : Hp} : ∀ {vs : List V} {ds : List PyData}, vs.length = ds.length → (∀ (i : Nat) v d, vs[i]? = some v → ds[i]? = some d → Dv K H v d) → DvAll K H vs ds
  | [], [], _, _ => .nil
  | v :: vs, d :: ds, hl, h => .cons (h 0 v d rfl rfl) (dvAll_mk (by simpa using hl) fun i v d h1 h2 => h (i + 1) v d h1 h2)
/-- what each item of a row of rows holds -/
theorem rows_of {K : PySem.W.Frag} {H : Hp} {vs : List V} {ds : List PyData} (h : DvAll K H vs ds) (hs : ∀ d ∈ ds, (seqD d).isSome = true) : ∃ F : Nat → List V, ∀ (i : Nat) v d, vs[i]? = some v → ds[i]? = some d → Sk K H v (F i) ∧ ∃ es, seqD d = some es ∧ DvAll K H (F i) es := by
  have h1 : ∀ i : Nat, ∃ X : List V, ∀ v d, vs[i]? = some v → ds[i]? = some d → Sk K H v X ∧ ∃ es, seqD d = some es ∧ DvAll K H X es := fun i => by
    cases e : vs[i]? with
    | none => exact ⟨[], fun v d h _ => by cases h⟩
    | some v =>
      obtain ⟨d, e2, hd⟩ := h.at e
      obtain ⟨es, e3⟩ := Option.isSome_iff_exists.mp (hs d (List.mem_of_getElem? e2))
      obtain ⟨X, k1, k2⟩ := hd.sk e3
      refine ⟨X, fun v' d' h1 h2 => ?_⟩
      cases h1
      rw [e2] at h2; cases h2
      exact ⟨k1, es, e3, k2⟩
  exact ⟨fun i => Classical.choose (h1 i), fun i => Classical.choose_spec (h1 i)⟩
end Jv

/-! ### several except clauses, some with a name -/
namespace Jv
open PySem PySem.Spec PyProof.Rows L2
/-- a suite with the exception's name at slot i -/
def sNamed (i : Nat) (ts : Addr → Value → Option Addr → TS) : Addr → Value → Option Addr → TS := fun e k d D τ H =>
  ts e k d { nx := fun ρ G => D.nx (ρ.set i none) G, rt := D.rt, bk := fun ρ G => D.bk (ρ.set i none) G, ct := fun ρ G => D.ct (ρ.set i none) G } (τ.set i (some (.ref e))) H
inductive Cls2 (X : Cx) : List ExceptHandler → List (Value × (Addr → Value → Option Addr → TS)) → Prop
  | nil : Cls2 X [] []
  | bare {nm : Str} {k : Value} {ts : Addr → Value → Option Addr → TS} {st : Stmt} {sts : List Stmt} {p1 p2 : Pos} {hl : List ExceptHandler} {wl : List (Value × (Addr → Value → Option Addr → TS))} (hk : Names X nm k)
      (su : ∀ (e : Addr) (ob : Obj) (kd : Value) (d : Option Addr) (pq : List (Addr × Obj)), Zc kd d ob → (∃ fs, ob.data = .fields fs) → PSs (X.suite e ((e, ob) :: pq)) (st :: sts) (ts e kd d)) (more : Cls2 X hl wl) :
      Cls2 X (.ExceptHandler (some (.Name nm p1)) none (st :: sts) p2 :: hl) ((k, ts) :: wl)
  | named {nm n : Str} {i : Nat} {k : Value} {ts : Addr → Value → Option Addr → TS} {st : Stmt} {sts : List Stmt} {p1 p2 : Pos} {hl : List ExceptHandler} {wl : List (Value × (Addr → Value → Option Addr → TS))} (nd : X.N.Nodup) (ix : X.N[i]? = some n) (lc : X.env.kindOf n = some .local) (hk : Names X nm k)
      (su : ∀ (e : Addr) (ob : Obj) (kd : Value) (d : Option Addr) (pq : List (Addr × Obj)), Zc kd d ob → (∃ fs, ob.data = .fields fs) → PSs (X.suite e ((e, ob) :: pq)) (st :: sts) (ts e kd d)) (more : Cls2 X hl wl) :
      Cls2 X (.ExceptHandler (some (.Name nm p1)) (some n) (st :: sts) p2 :: hl) ((k, sNamed i ts) :: wl)
section
variable {X : Cx} {body : List Stmt} {h1 : ExceptHandler} {hl : List ExceptHandler} {wl : List (Value × (Addr → Value → Option Addr → TS))} {pos : Pos} {tb : WX → TS} {Wo : WX}
theorem ps_tryMix (hst : X.stack = X.env :: X.outer) (hfr0 : X.env.frame = some X.env.locals) (tk : Takes X Wo) (hh : Cls2 X (h1 :: hl) wl)
    (hb : ∀ (W : WX) (pq : List (Addr × Obj)) (xe : Value → Shared → Prop), Takes (X.tr pq xe) W → PassesOwn (model X.prog X.w) X.A X.env xe → PSs (X.tr pq xe) body (tb W)) :
    PS X (.Try body (h1 :: hl) [] [] pos) (fun D τ H => tb (wMany X.K Wo D wl) D τ H) := by
  refine ⟨fun pins s τ H D I wish => ?_⟩
  have iok := I.ok
  have afr : X.A.frames = some (X.env :: X.outer) := by rw [iok.frames, hst]
  refine wpAny_Try_except ?_
  refine wpAny_mono ((hb (wMany X.K Wo D wl) (X.pn ++ pins) (fun u r1 => wpAny (model X.prog X.w) X.A (noteFrame u X.env) (fun _ r2 => wpAny (model X.prog X.w) X.A (setFlight u none) (fun _ r3 =>
    wpAny (model X.prog X.w) X.A (handleBy u X.env (h1 :: hl)) (SP X pins D) X.xe r3) X.xe r2) X.xe r1) (fun u t xx => ?_) PassesOwn.looking).run [] s τ H D (I.toTry _) wish) (fun f t hsp => ?_) (fun u t he => he)
  · obtain ⟨e, B, sI, pq, ρ, G, kd, d, rfl, J0, nb, up, sky0, ne, os, ag, w⟩ := xx
    have J : Inv X pins ρ G sI := J0.ofTry iok
    have sky : Sky B (X.env :: X.outer) e (Zc kd d) X.env.locals t.heap := by rw [← hst]; exact sky0
    show wpAny (model X.prog X.w) X.A (noteFrame (.ref e) X.env) _ _ _
    refine Sky.land Zc.steady afr hfr0 sky fun g3 fl3 up3 => ?_
    have J3 : Inv X pins ρ G { t with heap := g3 } := J.landed nb fl3.1 (up.trans up3) os ag
    obtain ⟨ob3, fs3, at3, z3, dt3⟩ := fl3.there
    have notIn : e ∉ frs (X.env :: X.outer) := fun m => by
      obtain ⟨_, ob, at', hn⟩ := fl3.2.2.1.mem m
      rw [at3] at at'; cases at'
      exact hn _ dt3
    have nLoc : e ≠ X.env.locals := fun z => notIn (List.mem_filterMap.mpr ⟨X.env, List.mem_cons_self, by rw [hfr0, z]⟩)
    have nFs : e ∉ X.fs := fun m => by
      obtain ⟨v, hv, q⟩ := List.mem_filterMap.mp m
      exact notIn (List.mem_filterMap.mpr ⟨v, List.mem_cons_of_mem _ hv, q⟩)
    have S3 := J3.suite at3 dt3 ne nLoc nFs
    have look : PySem.W.Looks (model X.prog X.w) g3 (typeOf (.ref e)) kd := fun A Q E r k q => wpAny_typeOf_ref (k _ _ at3) (by rw [z3.1]; exact q)
    have test : ∀ {nm : Str} {p1 : Pos} {k : Value} {Q : Value → Shared → Prop} {E : Value → Shared → Prop}, Names X nm k → Q k { t with heap := g3 } → wpAny (model X.prog X.w) (X.A.mark (some (.ref e))) (eval (.Name nm p1) X.env) Q E { t with heap := g3 } := fun {nm p1 k Q E} hk q => by
      obtain ⟨hg, hdb, hm | ⟨hm, hv, hnn⟩⟩ := hk
      · exact ld_glob (X := X.suite e ((e, ob3) :: (X.pn ++ pins))) S3 hg hm q hdb
      · exact ld_blt (X := X.suite e ((e, ob3) :: (X.pn ++ pins))) S3 hg hm hv q hnn hdb
    have all : ∀ {hl2 : List ExceptHandler} {wl2 : List (Value × (Addr → Value → Option Addr → TS))}, Cls2 X hl2 wl2 → wMany X.K Wo D wl2 kd d ρ G →
        wpAny (model X.prog X.w) X.A (handleBy (.ref e) X.env hl2) (SP X pins D) X.xe { t with heap := g3 } := by
      intro hl2 wl2 hc
      induction hc with
      | nil =>
        intro w
        refine wpAny_handleBy_nil ?_
        obtain ⟨k1, k2, k3, ob, fs, T, oT, us, he, hz, hd, hh1, hr⟩ := id fl3
        unfold PySem.passOn
        refine wpAny_bind (wpAny_field he hd hh1 ?_)
        rw [if_neg (show ¬ ((Value.ref T == Value.none) = true) from by simp)]
        have fin : wpAny (model X.prog X.w) X.A (setFlight (.ref e) X.env.frame) (fun _ r4 => wpAny (model X.prog X.w) X.A (throw (.ref e) : Sem Flow) (SP X pins D) X.xe r4) X.xe { t with heap := g3 } := by
          rw [hfr0]
          refine HandSPX.setFlight_upZ fl3 fun g4 hg4 up4 => wpAny_throw (tk _ _ ?_)
          exact ⟨e, B, sI, pins, ρ, G, kd, d, rfl, J, nb, (up.trans up3).trans up4, .inr (.inr (by rw [hst]; exact hg4)), ne, os, ag, w⟩
        first
          | exact wpAny_bind (wpAny_pure (wpAny_bind fin))
          | exact wpAny_bind fin
      | @bare nm k ts st sts p1 p2 hl3 wl3 hk su more ih =>
        intro w
        obtain ⟨b, hb1, yes, no⟩ := w
        refine wpAny_handleBy_cons (codeAny_handlers_test ?_) (by intro q; cases q)
        refine test hk ((PySem.W.exm_one (M := model X.prog X.w) (J3.kIn) look hb1).here ?_)
        cases b with
        | true =>
          refine codeAny_handlers_suite ?_
          refine HandSPX.lands_againZ fl3 fun g4 fl4 up4 => ?_
          have J4 : Inv X pins ρ G { t with heap := g4 } := J.landed nb fl4.1 ((up.trans up3).trans up4) os ag
          obtain ⟨ob4, fs4, at4, z4, dt4⟩ := fl4.there
          have S4 := J4.suite at4 dt4 ne nLoc nFs
          refine wpAny_mono ((su e ob4 kd d (X.pn ++ pins) z4 ⟨_, dt4⟩).run [] _ _ G _ S4 (yes rfl e ne)) (fun f r6 hsp => ?_) (fun _ _ z => False.elim z)
          cases f with
          | ret u =>
            obtain ⟨v6, τ6, G6, S6, rel6, q6⟩ := hsp
            exact ⟨_, _, _, S6.unsuite iok, rel6, q6⟩
          | _ =>
            obtain ⟨τ6, G6, S6, q6⟩ := hsp
            exact ⟨_, _, S6.unsuite iok, q6⟩
        | false =>
          show wpAny _ X.A (handleBy (.ref e) X.env hl3) _ _ _
          exact ih (no rfl)
      | @named nm n i k ts st sts p1 p2 hl3 wl3 nd ix lc hk su more ih =>
        intro w
        obtain ⟨b, hb1, yes, no⟩ := w
        refine wpAny_handleBy_cons (codeAny_handlers_test ?_) (by intro q; cases q)
        refine test hk ((PySem.W.exm_one (M := model X.prog X.w) (J3.kIn) look hb1).here ?_)
        cases b with
        | true =>
          refine codeAny_handlers_suite_as ?_
          refine HandSPX.lands_againZ fl3 fun g4 fl4 up4 => ?_
          have J4 : Inv X pins ρ G { t with heap := g4 } := J.landed nb fl4.1 ((up.trans up3).trans up4) os ag
          obtain ⟨ob4, fs4, at4, z4, dt4⟩ := fl4.there
          have S4 := J4.suite at4 dt4 ne nLoc nFs
          refine store_ok (X := X.suite e ((e, ob4) :: (X.pn ++ pins))) (v := .ref e) S4 nd ix (.inl lc) rfl (fun r5 S5 => ?_) (.inr lc)
          refine wpAny_mono ((su e ob4 kd d (X.pn ++ pins) z4 ⟨_, dt4⟩).run [] r5 _ G _ S5 (yes rfl e ne)) (fun f r6 hsp => ?_) (fun _ _ z => False.elim z)
          have goes : ∀ {τ6 : L2.St} {G6 : Hp} {Q : Shared → Prop}, Inv (X.suite e ((e, ob4) :: (X.pn ++ pins))) [] τ6 G6 r6 → (∀ r7, Inv X pins (τ6.set i none) G6 r7 → Q r7) →
              wpAny (model X.prog X.w) X.A (do bindName X.env n .none; unbindBehindTheSuite X.env n p2) (fun _ r7 => Q r7) X.xe r6 := fun {τ6 G6 Q} S6 hq => gone_ok (S6.unsuite iok) nd ix lc hq
          cases f with
          | ret u =>
            obtain ⟨v6, τ6, G6, S6, rel6, q6⟩ := hsp
            exact goes S6 fun r7 J7 => ⟨_, _, _, J7, rel6, q6⟩
          | _ =>
            obtain ⟨τ6, G6, S6, q6⟩ := hsp
            exact goes S6 fun r7 J7 => ⟨_, _, J7, q6⟩
        | false =>
          show wpAny _ X.A (handleBy (.ref e) X.env hl3) _ _ _
          exact ih (no rfl)
    exact all hh w
  · cases f with
    | next =>
      obtain ⟨ρ, G, J0, q⟩ := hsp
      exact wpAny_execs_nil ⟨ρ, G, J0.ofTry iok, q⟩
    | ret u =>
      obtain ⟨v, ρ, G, J0, rel, q⟩ := hsp
      exact ⟨v, ρ, G, J0.ofTry iok, rel, q⟩
    | _ =>
      obtain ⟨ρ, G, J0, q⟩ := hsp
      exact ⟨ρ, G, J0.ofTry iok, q⟩
end
end Jv

/-! ### trees of lists that are new: each list at its own place, so that one may change -/
namespace Jv
open PySem PySem.Spec PyProof.Rows L2
mutual
inductive Ft (K : PySem.W.Frag) (H : Hp) : V → PyData → List Addr → Prop
  | non : Ft K H .non .none []
  | bl (b : Bool) : Ft K H (.bl b) (.bool b) []
  | int (i : Int) : Ft K H (.int i) (.int i) []
  | str (x : Str) : Ft K H (.str x) (.str x) []
  | lst {a : Addr} {xs : List V} {ds : List PyData} {A : List Addr} : H a = some (.lst xs) → FtAll K H xs ds A → a ∉ A → Ft K H (.ref a) (.list ds) (a :: A)
inductive FtAll (K : PySem.W.Frag) (H : Hp) : List V → List PyData → List Addr → Prop
  | nil : FtAll K H [] [] []
  | cons {v : V} {vs : List V} {d : PyData} {ds : List PyData} {A B : List Addr} : Ft K H v d A → FtAll K H vs ds B → (∀ a ∈ A, a ∉ B) → FtAll K H (v :: vs) (d :: ds) (A ++ B)
end
mutual
theorem Ft.dv {K : PySem.W.Frag} {H : Hp} : ∀ {v : V} {d : PyData} {A : List Addr}, Ft K H v d A → Dv K H v d
  | _, _, _, .non => .non
  | _, _, _, .bl b => .bl b
  | _, _, _, .int i => .int i
  | _, _, _, .str x => .str x
  | _, _, _, .lst h q _ => .lst h (FtAll.dv q)
theorem FtAll.dv {K : PySem.W.Frag} {H : Hp} : ∀ {vs : List V} {ds : List PyData} {A : List Addr}, FtAll K H vs ds A → DvAll K H vs ds
  | _, _, _, .nil => .nil
  | _, _, _, .cons a b _ => .cons (Ft.dv a) (FtAll.dv b)
end
mutual
/-- what is kept at the tree's own places keeps the tree -/
theorem Ft.keep {K : PySem.W.Frag} {H H' : Hp} : ∀ {v : V} {d : PyData} {A : List Addr}, Ft K H v d A → (∀ a ∈ A, ∀ o, H a = some o → H' a = some o) → Ft K H' v d A
  | _, _, _, .non, _ => .non
  | _, _, _, .bl b, _ => .bl b
  | _, _, _, .int i, _ => .int i
  | _, _, _, .str x, _ => .str x
  | _, _, _, .lst h q n, s => .lst (s _ List.mem_cons_self _ h) (FtAll.keep q fun a m => s a (List.mem_cons_of_mem _ m)) n
theorem FtAll.keep {K : PySem.W.Frag} {H H' : Hp} : ∀ {vs : List V} {ds : List PyData} {A : List Addr}, FtAll K H vs ds A → (∀ a ∈ A, ∀ o, H a = some o → H' a = some o) → FtAll K H' vs ds A
  | _, _, _, .nil, _ => .nil
  | _, _, _, .cons a b n, s => .cons (Ft.keep a fun c m => s c (List.mem_append_left _ m)) (FtAll.keep b fun c m => s c (List.mem_append_right _ m)) n
end
section
variable {K : PySem.W.Frag} {H H' : Hp}
theorem FtAll.ints : ∀ ns : List Int, FtAll K H (ns.map V.int) (ns.map PyData.int) []
  | [] => .nil
  | a :: r => by
    have h := FtAll.cons (A := []) (B := []) (Ft.int (K := K) (H := H) a) (FtAll.ints r) (fun _ m => nomatch m)
    exact h
theorem FtAll.app : ∀ {vs ws : List V} {ds es : List PyData} {A B : List Addr}, FtAll K H vs ds A → FtAll K H ws es B → (∀ a ∈ A, a ∉ B) → FtAll K H (vs ++ ws) (ds ++ es) (A ++ B)
  | _, _, _, _, _, _, .nil, q, _ => q
  | _, ws, _, es, _, B, .cons (A := A1) (B := B1) a b n, q, dj => by
    rw [List.cons_append, List.cons_append, List.append_assoc]
    refine .cons a (FtAll.app b q fun c m => dj c (List.mem_append_right _ m)) fun c m => ?_
    intro m2
    rcases List.mem_append.mp m2 with h | h
    · exact n c m h
    · exact dj c (List.mem_append_left _ m) h
theorem FtAll.len : ∀ {vs : List V} {ds : List PyData} {A : List Addr}, FtAll K H vs ds A → vs.length = ds.length
  | _, _, _, .nil => rfl
  | _, _, _, .cons _ b _ => congrArg (· + 1) (FtAll.len b)
/-- one of them, and what a change within it makes of all -/
theorem FtAll.chg : ∀ {vs : List V} {ds : List PyData} {A : List Addr} {i : Nat} {v : V}, FtAll K H vs ds A → vs[i]? = some v → ∃ d B, ds[i]? = some d ∧ Ft K H v d B ∧ (∀ a ∈ B, a ∈ A) ∧
    (∀ w e H', (∀ a ∈ A, a ∉ B → ∀ o, H a = some o → H' a = some o) → Dv K H' w e → DvAll K H' (vs.set i w) (ds.set i e))
  | _, _, _, _, _, .nil, e => by simp at e
  | _, _, _, 0, v, .cons (A := A1) (B := B1) a b n, e => by
    simp at e; subst e
    refine ⟨_, A1, rfl, a, fun c m => List.mem_append_left _ m, fun w e H' s dv => ?_⟩
    exact .cons dv (b.keep fun c m => s c (List.mem_append_right _ m) fun m2 => n c m2 m).dv
  | _, _, _, i + 1, v, .cons (A := A1) (B := B1) a b n, e => by
    simp at e
    obtain ⟨d, B, h1, h2, h3, h4⟩ := FtAll.chg b e
    refine ⟨d, B, h1, h2, fun c m => List.mem_append_right _ (h3 c m), fun w e H' s dv => ?_⟩
    refine .cons (a.keep fun c m => s c (List.mem_append_left _ m) fun m2 => n c m (h3 c m2)).dv (h4 w e H' (fun c m m2 => s c (List.mem_append_right _ m) m2) dv)
mutual
theorem Ft.held : ∀ {v : V} {d : PyData} {A : List Addr}, Ft K H v d A → ∀ a ∈ A, ∃ xs, H a = some (.lst xs)
  | _, _, _, .lst h q _, a, m => by
    rcases List.mem_cons.mp m with rfl | m
    · exact ⟨_, h⟩
    · exact FtAll.held q a m
theorem FtAll.held : ∀ {vs : List V} {ds : List PyData} {A : List Addr}, FtAll K H vs ds A → ∀ a ∈ A, ∃ xs, H a = some (.lst xs)
  | _, _, _, .cons x y _, a, m => by
    rcases List.mem_append.mp m with m | m
    · exact Ft.held x a m
    · exact FtAll.held y a m
end
theorem Ft.same {v : V} {d : PyData} {A : List Addr} (h : Ft K H v d A) (s : Same H H') : Ft K H' v d A := h.keep fun a _ o e => s a o e
end
section
variable {K : PySem.W.Frag} {σ : L2.St} {H : Hp} {te te0 : TE} {Q : VK} {xs : List V} {es : List PyData} {j i n : Nat} {x : V} {J : It} {G : Hp → Prop} {Y : Nat → Hp → V → Hp → Prop} {F : Nat → V → Prop}
theorem lcNew (w : Walk J n G Y) (hG : ∀ H', Same H H' → G H') (hy : ∀ i H x H', i < n → Y i H x H' → H' = H ∧ F i x) (es : List PyData) (hl : es.length = n) (few : n ≤ 1000)
    (hs : ∀ i v e D H1, i < n → F i v → es[i]? = some e → Same H H1 → H D = none → (∃ o, H1 D = some o) → ∀ P : VK, (∀ y A H2, Same H1 H2 → Ft K H2 y e A → (∀ a ∈ A, H1 a = none) → P y H2) → te ((σ.set j none).set j (some v)) H1 P)
    (hd : ∀ D A H1, Same H H1 → Ft K H1 (.ref D) (.list es) A → (∀ a ∈ A, H a = none) → Q (.ref D) H1) : ∀ D, H D = none → ∃ W : Nat → Nat → Hp → Prop, (∃ m, W 0 m (upd H D (.lst []))) ∧ ∀ i m H, W i m H →
      (J.stop i H ∧ Q (.ref D) H) ∨ (J.go i H ∧ ∃ Nx : Hp → Prop, (∀ H', Nx H' → ∃ m', m' < m ∧ W (i + 1) m' H') ∧ ∀ x H', J.yld i H x H' → gName j x (wipe σ [j]) H' fun σ2 H2 => wipe σ2 [j] = wipe σ [j] ∧ tYes σ2 H2 fun b H3 =>
        if b = true then te σ2 H3 fun y H4 => ∃ acc, H4 D = some (.lst acc) ∧ acc.length < sizeLine ∧ Nx (upd H4 D (.lst (acc ++ [y]))) else Nx H3) := by
  intro D hD
  refine lc_it w (fun i H1 => Same H H1 ∧ ∃ ys A, H1 D = some (.lst ys) ∧ FtAll K H1 ys (es.take i) A ∧ ∀ a ∈ A, H a = none ∧ a ≠ D) ⟨same_new hD, [], [], upd_same, .nil, fun _ m => nomatch m⟩ (fun i H1 _ h => hG H1 h.1) ?_ ?_
  · rintro i x H1 H2 hi ⟨s1, ys, A, e1, al, fr⟩ hx
    obtain ⟨e0, hF⟩ := hy i _ _ _ hi hx
    subst e0
    refine ⟨wipe1, ?_⟩
    refine r_yes ?_
    refine r_true (c := true) rfl ?_
    have hie : i < es.length := by omega
    have he := List.getElem?_eq_getElem hie
    refine hs i x _ D _ hi hF he s1 hD ⟨_, e1⟩ _ fun y B H3 s3 dy nB => ⟨_, s3 _ _ e1, ?_, ?_, _, A ++ B, upd_same, ?_, ?_⟩
    · rw [al.len, List.length_take]; exact small_lt (by omega)
    · intro b o e; exact kpO (s3 _ _ (s1 b o e)) (ne_of_none e hD)
    · rw [take_more he]
      have nD : ∀ a ∈ B, a ≠ D := fun a m z => by have := nB a m; rw [z, e1] at this; cases this
      have q : FtAll K (upd H3 D (.lst (ys ++ [y]))) [y] [es[i]] B := by
        have q2 : Ft K (upd H3 D (.lst (ys ++ [y]))) y es[i] B := dy.keep fun a m o e => kpO e (nD a m)
        have q3 := FtAll.cons q2 (FtAll.nil (K := K)) (fun a _ => by simp)
        rw [List.append_nil] at q3
        exact q3
      refine FtAll.app (al.keep fun a m o e => kpO (s3 _ _ e) (fr a m).2) q fun a m m2 => ?_
      obtain ⟨zs, hz⟩ := al.held a m
      rw [nB a m2] at hz; cases hz
    · intro a m
      rcases List.mem_append.mp m with m | m
      · exact fr a m
      · have h1 := nB a m
        refine ⟨?_, fun z => by rw [z, e1] at h1; cases h1⟩
        cases e : H a with
        | none => rfl
        | some o => rw [s1 a o e] at h1; cases h1
  · rintro H1 ⟨s1, ys, A, e1, al, fr⟩
    rw [List.take_of_length_le (by omega)] at al
    exact hd D (D :: A) H1 s1 (.lst e1 al fun m => (fr D m).2 rfl) fun a m => by
      rcases List.mem_cons.mp m with rfl | m
      · exact hD
      · exact (fr a m).1
theorem lcNew2 (hv : σ[i]? = some (some x)) (hx : Sk K H x xs) (es : List PyData) (hl : es.length = xs.length) (few : xs.length ≤ 1000)
    (hs : ∀ i v e D H1, i < xs.length → xs[i]? = some v → es[i]? = some e → Same H H1 → H D = none → (∃ o, H1 D = some o) → ∀ P : VK, (∀ y A H2, Same H1 H2 → Ft K H2 y e A → (∀ a ∈ A, H1 a = none) → P y H2) → te ((σ.set j none).set j (some v)) H1 P)
    (hd : ∀ D A H1, Same H H1 → Ft K H1 (.ref D) (.list es) A → (∀ a ∈ A, H a = none) → Q (.ref D) H1) : tLc (fun σ H R => iList K (tVar i) σ H R ∨ iTup K (tVar i) σ H R) (gName j) tYes te [j] σ H Q := by
  obtain ⟨a, rfl, h | h⟩ := hx
  · exact .inl ⟨_, hv, a, rfl, ⟨xs, h⟩, lcNew walk_list (fun H' s => s.seq h) yat es hl few hs hd⟩
  · exact .inr ⟨_, hv, a, rfl, ⟨xs, h⟩, lcNew walk_tup (fun H' s => Jv.Same.sqT s h) yat es hl few hs hd⟩
end
section
variable {K : PySem.W.Frag} {g : TG} {tb : TS} {D : Ends} {σ : L2.St} {H : Hp} {xs : List V} {x : V} {i : Nat}
/-- a loop over a name that holds a list or a tuple that stays -/
theorem for_sk (hv : σ[i]? = some (some x)) (hx : Sk K H x xs) (Pv : Nat → L2.St → Hp → Prop) (h0 : Pv 0 σ H) (hl : ∀ j σ' H', Pv j σ' H' → Same H H')
    (hs : ∀ j v σ' H', xs[j]? = some v → Pv j σ' H' → g v σ' H' fun σ2 H2 => tb { D with nx := Pv (j + 1), ct := Pv (j + 1), bk := D.nx } σ2 H2) (hd : ∀ σ' H', Pv xs.length σ' H' → D.nx σ' H') :
    iList K (tVar i) σ H (fun it H1 => ∃ W : Nat → Nat → L2.St → Hp → Prop, (∃ m, W 0 m σ H1) ∧ ∀ i m σ H, W i m σ H →
      (it.stop i H ∧ D.nx σ H) ∨ (it.go i H ∧ ∃ N : L2.St → Hp → Prop, (∀ σ' H', N σ' H' → ∃ m', m' < m ∧ W (i + 1) m' σ' H') ∧ ∀ x H', it.yld i H x H' → g x σ H' fun σ2 H2 => tb { D with nx := N, ct := N, bk := D.nx } σ2 H2)) ∨
    iTup K (tVar i) σ H (fun it H1 => ∃ W : Nat → Nat → L2.St → Hp → Prop, (∃ m, W 0 m σ H1) ∧ ∀ i m σ H, W i m σ H →
      (it.stop i H ∧ D.nx σ H) ∨ (it.go i H ∧ ∃ N : L2.St → Hp → Prop, (∀ σ' H', N σ' H' → ∃ m', m' < m ∧ W (i + 1) m' σ' H') ∧ ∀ x H', it.yld i H x H' → g x σ H' fun σ2 H2 => tb { D with nx := N, ct := N, bk := D.nx } σ2 H2)) := by
  obtain ⟨a, rfl, h | h⟩ := hx
  · exact .inl ⟨_, hv, a, rfl, ⟨xs, h⟩, for_list (xs := xs) Pv h0 (fun j σ' H' _ p => (hl j σ' H' p).seq h) hs hd⟩
  · exact .inr ⟨_, hv, a, rfl, ⟨xs, h⟩, for_tup (xs := xs) Pv h0 (fun j σ' H' _ p => Jv.Same.sqT (hl j σ' H' p) h) hs hd⟩
end
section
variable {K : PySem.W.Frag} {g : TG} {tb : TS} {D : Ends} {σ : L2.St} {H H0 : Hp} {xs : List V} {x : V} {i : Nat}
/-- the same with the sequence in an earlier heap -/
theorem for_sk0 (hv : σ[i]? = some (some x)) (hx : Sk K H0 x xs) (s0 : Same H0 H) (Pv : Nat → L2.St → Hp → Prop) (h0 : Pv 0 σ H) (hl : ∀ j σ' H', Pv j σ' H' → Same H0 H')
    (hs : ∀ j v σ' H', xs[j]? = some v → Pv j σ' H' → g v σ' H' fun σ2 H2 => tb { D with nx := Pv (j + 1), ct := Pv (j + 1), bk := D.nx } σ2 H2) (hd : ∀ σ' H', Pv xs.length σ' H' → D.nx σ' H') :
    iList K (tVar i) σ H (fun it H1 => ∃ W : Nat → Nat → L2.St → Hp → Prop, (∃ m, W 0 m σ H1) ∧ ∀ i m σ H, W i m σ H →
      (it.stop i H ∧ D.nx σ H) ∨ (it.go i H ∧ ∃ N : L2.St → Hp → Prop, (∀ σ' H', N σ' H' → ∃ m', m' < m ∧ W (i + 1) m' σ' H') ∧ ∀ x H', it.yld i H x H' → g x σ H' fun σ2 H2 => tb { D with nx := N, ct := N, bk := D.nx } σ2 H2)) ∨
    iTup K (tVar i) σ H (fun it H1 => ∃ W : Nat → Nat → L2.St → Hp → Prop, (∃ m, W 0 m σ H1) ∧ ∀ i m σ H, W i m σ H →
      (it.stop i H ∧ D.nx σ H) ∨ (it.go i H ∧ ∃ N : L2.St → Hp → Prop, (∀ σ' H', N σ' H' → ∃ m', m' < m ∧ W (i + 1) m' σ' H') ∧ ∀ x H', it.yld i H x H' → g x σ H' fun σ2 H2 => tb { D with nx := N, ct := N, bk := D.nx } σ2 H2)) := by
  obtain ⟨a, rfl, h | h⟩ := hx
  · exact .inl ⟨_, hv, a, rfl, ⟨xs, s0.seq h⟩, for_list (xs := xs) Pv h0 (fun j σ' H' _ p => (hl j σ' H' p).seq h) hs hd⟩
  · exact .inr ⟨_, hv, a, rfl, ⟨xs, Jv.Same.sqT s0 h⟩, for_tup (xs := xs) Pv h0 (fun j σ' H' _ p => Jv.Same.sqT (hl j σ' H' p) h) hs hd⟩
end
/-- a tree without lists needs no list -/
theorem sqT_hide {K : PySem.W.Frag} {H : Hp} {N : List Addr} (hN : ∀ b ∈ N, ∃ ys, H b = some (.lst ys)) {a : Addr} {xs : List V} (h : SqT K H a xs) : SqT K (hide N H) a xs := by
  rcases h with (h | ⟨o, h⟩) | h
  · exact .inl (.inl (hide_at (fun m => by obtain ⟨ys, e⟩ := hN a m; rw [h] at e; cases e) h))
  · exact .inl (.inr ⟨o, hide_at (fun m => by obtain ⟨ys, e⟩ := hN a m; rw [h] at e; cases e) h⟩)
  · exact .inr h
theorem DvAll.imp {K : PySem.W.Frag} {H H' : Hp} : ∀ {vs : List V} {ds : List PyData}, DvAll K H vs ds → (∀ v d, d ∈ ds → Dv K H v d → Dv K H' v d) → DvAll K H' vs ds
  | _, _, .nil, _ => .nil
  | _, _, .cons a b, f => .cons (f _ _ List.mem_cons_self a) (DvAll.imp b fun v d m => f v d (List.mem_cons_of_mem _ m))
end Jv

/-! ### repr of a container: where no text of a container is under way (guards known) -/
namespace Jv
open PySem PySem.Spec PyProof.Rows L2
/-- a def's promise where no text of a container is under way -/
structure FnG (P : Program) (w : World) (K : PySem.W.Frag) (mg : Str → Option Value) (base : Heap) (CX : CXT) (k : Nat) (f : Addr) (fd : FuncData) (ps : List Str) (sp : Sp) : Prop where
  long : ∀ vs H Q E, sp vs H Q E → vs.length = ps.length
  goes : ∀ A outer s H args us vs Q E, A.guards = some [] → Room k A →
    Env0 P w K mg base A outer s H → BindsTo s fd args (ps.zip us) → Vals vs us → sp vs H Q E →
      codeAny (model P w) A (.call (.ref f) args) (CR CX outer P w H s Q E) s
section
variable {P : Program} {w : World} {K : PySem.W.Frag} {mg : Str → Option Value} {base : Heap} {CX : CXT} {k : Nat} {f : Addr} {fd : FuncData} {ps : List Str} {sp : Sp}
theorem FnG.of (F : FnOk P w K mg base CX k f fd ps sp) : FnG P w K mg base CX k f fd ps sp := ⟨F.len, fun A o s H a us vs Q E _ => F.run A o s H a us vs Q E⟩
/-- a def whose body may ask for the text of a container -/
theorem fun_okG {x qual : Str} {st : Stmt} {N : List Str} (F : Fun K x qual st f fd) (S : FnScope N ps (defScope st)) (hl : ∀ vs H Q E, sp vs H Q E → vs.length = ps.length)
    (body : ∀ (cdv : Value) (A : Around) (outer : List Env) (s : Shared) (H : Hp) (vs : List V) (Q : VK) (E : XK), A.guards = some [] → Room k (A.deeper (envOfC qual (defScope st) s.heap.objs.size f cdv)) → sp vs H Q E →
      ∃ t, PSs (cxOf CX0 P w K mg base N qual (defScope st) f cdv A outer s H E).nox (defBody st) t ∧ t { nx := fun _ H' => Q .non H', rt := Q } (start N vs) H) : FnG P w K mg base CX0 (k + 1) f fd ps sp := by
  obtain ⟨c1, c2, c3, c4, c5, c6, c7, c8, c9, rfl, here, rec⟩ := F.ex
  refine ⟨hl, fun A outer s H args us vs Q E gd room e0 bd rv hs => ?_⟩
  have up : ∀ b o, base.get? b = some o → s.heap.get? b = some o := fun b o q => (e0.bs b o q).1
  have kin : K.In s.heap := e0.mod.kin.keeps up
  refine codeAny_call_function room.depth (kin _ _ here) rfl S.co S.gen rfl (PySem.W.codeRec_of kin rec) (bd _ _ _ _ ?_)
  refine wpAny_newFunctionEnv_cells S.kind (fun y hy => ?_) fun env he s1 inC => ?_
  · rcases S.par y.1 (List.of_mem_zip (show (y.1, y.2) ∈ _ from hy)).1 with q | q
    · exact Or.inl q
    · exact Or.inr ⟨q, PySem.W.cellsFrom_some _ _ _ (Or.inl q)⟩
  cases he
  refine ⟨(e0.mod.nolimit.keeps up).keeps inC.toInCall.keep, codeAny_func ?_⟩
  obtain ⟨t, pt, q⟩ := body c7 A outer s H vs Q E gd (room.deeper _) hs
  refine wpAny_mono (pt.nox.run [] s1 _ H _ (inv_start S room.hd e0 (hl _ _ _ _ hs) rv inC) q) (fun fl s' z => ?_) fun _ _ z => z
  have done : ∀ (σ' : L2.St) (H' : Hp) (v : V) (u : Value), Inv (cxOf CX0 P w K mg base N qual (defScope st) f c7 A outer s H E) [] σ' H' s' → RelV v u → Q v H' → CE outer P w H s Q u s' :=
    fun σ' H' v u J r q => ⟨v, H', J.os, J.bare, J.base, J.hok, r, q⟩
  cases fl
  case ret u => exact let ⟨v, σ', H', J, r, q⟩ := z; done σ' H' v u J r q
  case next => exact let ⟨σ', H', J, q⟩ := z; done σ' H' .non .none J rfl q
  case brk => exact let ⟨_, _, _, q⟩ := z; (q : False).elim
  case cont => exact let ⟨_, _, _, q⟩ := z; (q : False).elim
end
/-! ### the text of a container -/
def rRepr (K : PySem.W.Frag) : List V → Hp → VK → Prop := fun xs H Q => ∃ a d, xs = [.ref a] ∧ Dp K H (.ref a) d ∧ d.canLay0 = true ∧ d.depth ≤ 60 ∧ d.showable = true ∧ d.shown.length ≤ sizeLine ∧ Q (.str d.shown) H
theorem call_repr {X : Cx} (hg : X.A.guards = some []) (hu : X.A.units + 64 < cLine) : CallR X (.builtin "repr") (rRepr X.K) := by
  intro pins s σ H xs us Q I r h
  obtain ⟨a, d, rfl, dp, c1, c2, c3, c4, q⟩ := h
  obtain ⟨u, rfl, ru⟩ := r.one
  cases (show u = Value.ref a from ru)
  obtain ⟨as, rd⟩ := Dp.reads I d (.ref a) (.ref a) dp rfl
  refine repr_of_reads' rd c3 (fun z => by rw [PyData.hasDict_of_canLay d c1] at z; cases z) hg (by omega) (fun _ _ e => e) (fun h' u tk k => ?_) c4
  exact ⟨.str d.shown, H, I.kept (t' := tk) k, ⟨_, rfl⟩, q⟩
theorem gd_body {CX : CXT} {P : Program} {w : World} {K : PySem.W.Frag} {mg : Str → Option Value} {base : Heap} {N : List Str} {qual : Str} {scope : Scope} {f : Addr} {cd : Value} {A : Around} {outer : List Env} {s : Shared} {H : Hp} {E : XK} (h : A.guards = some []) :
    (cxOf CX P w K mg base N qual scope f cd A outer s H E).nox.A.guards = some [] := h
/-! ### the end of a law whose def asks for the text of a container -/
section
variable {P : Program} {w : World} {K : PySem.W.Frag} {mg mb : Str → Option Value} {CX : CXT} {k : Nat} {fa a : Addr} {fd : FuncData} {x : Str} {sp : Sp} {z : Shared} {vs : List Value} {ns : List Int}
theorem lawG (kin : K.In z.heap) (gl : z.heap.Ns mainGlobals mg) (bi : z.heap.Ns builtinsNs mb) (bb : ∀ y : Str, y ≠ "__name__" → mb y = bootBuiltins y) (nl : z.heap.NoLimit) (gn : z.gens = #[])
    (ea : z.heap.get? a = some { cls := .type "list", data := .seq vs.toArray }) (hi : IntsAre vs ns) (few : ns.length ≤ sizeLine) (room : Room k callerA)
    (F : ∀ base : Heap, K.In base → base.Ns mainGlobals mg → FnG P w K mg base CX k fa fd [x] sp) (bd : ∀ (s : Shared) (u : Value), BindsTo s fd ⟨[u], []⟩ [(x, u)])
    (says : ∀ H : Hp, Only H → SqL K H a (ns.map V.int) → sp [.ref a] H (fun v _ => v = .bl true) fun _ _ _ => False) (quiet : ∀ H e s', CX [] H z (fun _ _ _ => False) e s' → False) :
    codeAny (model P w) callerA (.call (.ref fa) ⟨[.ref a], []⟩) (fun r s' => r = .ok (.ret (.bool true)) ∧ OldK z.heap s'.heap ∧ s'.os = z.os ∧ AllBare s'.gens) z := by
  -- H tracks the script at most, and that only where it is none of the module's objects
  have main : ∀ H : Hp, Only H → (∀ b, ¬ H b = none → b = a ∧ K.lookup a = none) → SqL K H a (ns.map V.int) → HOk P w H z.heap →
      codeAny (model P w) callerA (.call (.ref fa) ⟨[.ref a], []⟩) (fun r s' => r = .ok (.ret (.bool true)) ∧ OldK z.heap s'.heap ∧ s'.os = z.os ∧ AllBare s'.gens) z := fun H only tr sq ok => by
    have dictOff : ∀ {b : Addr} {o : Obj} {es : Array DictEntry} {n : Nat}, z.heap.get? b = some o → o.data = .dict es n → H b = none := fun {b o es n} e d =>
      Classical.byContradiction fun t => by
        obtain ⟨rfl, _⟩ := tr b t
        rw [ea] at e
        cases e
        exact nomatch (show Data.seq vs.toArray _ = Data.dict es n from d)
    have spaces : ∀ {b : Addr} {m : Str → Option Value}, z.heap.Ns b m → (hidT z.heap H).Ns b m := fun q => by
      obtain ⟨o, es, n, e, d, r⟩ := q
      exact ⟨o, es, n, hidT_get e (dictOff e d), d, r⟩
    have own : K.In (hidT z.heap H) := fun b o q => hidT_get (kin b o q) (Classical.byContradiction fun t => by
      obtain ⟨rfl, n⟩ := tr b t
      rw [n] at q
      cases q)
    obtain ⟨ml, l1, l2⟩ := nl
    have start : Env0 P w K mg (hidT z.heap H) callerA [] z H :=
      { frames := rfl, mod := ⟨own, spaces gl, ⟨mb, spaces bi, bb⟩, ml, spaces l1, l2⟩, bs := fun _ _ q => of_hidT q, bsz := Nat.le_of_eq (hidT_size _ _), funs := trivial,
        frf := fun b q => (List.not_mem_nil q).elim, hok := ok, bare := .of_eq gn }
    refine codeAny_mono ((F _ own (spaces gl)).goes callerA [] z H ⟨[.ref a], []⟩ [.ref a] [.ref a] _ _ rfl room start (bd z (.ref a)) (.cons rfl .nil) (says H only sq)) fun r s' q => ?_
    match r, q with
    | .error e, q => exact (quiet H e s' q).elim
    | .ok .next, q => exact False.elim q
    | .ok .brk, q => exact False.elim q
    | .ok .cont, q => exact False.elim q
    | .ok (.ret u), q =>
      obtain ⟨v, H', os, bare, un, ok', rv, (rfl : v = .bl true)⟩ := q
      obtain rfl : u = Value.bool true := rv
      refine ⟨rfl, OldK.of_keep fun b o e => ?_, os, bare⟩
      rcases only b with n | ⟨ob, xs, t⟩
      · exact un.keep b o e n (fun m => (List.not_mem_nil m).elim) List.not_mem_nil
      · obtain ⟨h1, _⟩ := ok b _ t
        obtain ⟨h2, _⟩ := ok' b _ (un.frzs b ob _ t)
        rw [e] at h1
        cases h1
        exact h2
  have rv := vals_ints hi
  have nv := hi.length
  by_cases hk : K.lookup a = none
  · obtain ⟨S, hS⟩ : ∃ S : Hp, S = fun b => if b = a then some (HO.frz { cls := .type "list", data := .seq vs.toArray } (.lst (ns.map V.int))) else none := ⟨_, rfl⟩
    have seen : S a = some (.frz { cls := .type "list", data := .seq vs.toArray } (.lst (ns.map V.int))) := by rw [hS]; exact if_pos rfl
    have other : ∀ b, b ≠ a → S b = none := fun b e => by rw [hS]; exact if_neg e
    clear hS
    refine main S (fun b => ?_) (fun b t => ?_) (.inl (.inr ⟨_, seen⟩)) (fun b u t => ?_)
    · by_cases e : b = a
      · exact .inr ⟨_, _, by rw [e]; exact seen⟩
      · exact .inl (other b e)
    · exact ⟨Classical.byContradiction fun e => t (other b e), hk⟩
    · by_cases e : b = a
      · subst e
        rw [seen] at t
        cases t
        exact ⟨ea, by rw [List.length_map]; exact few, vs, _, rv, ea⟩
      · exact nomatch (other b e).symm.trans t
  · obtain ⟨o, q⟩ := Option.ne_none_iff_exists'.mp hk
    have e := kin a o q
    rw [ea] at e
    cases e
    exact main (fun _ => none) (fun _ => .inl rfl) (fun _ t => (t rfl).elim) (.inr ⟨_, vs.toArray, _, q, rfl, rfl, rfl, by rw [List.size_toArray, nv]; exact few, by simpa using rv⟩) fun _ _ t => nomatch (show (none : Option HO) = some _ from t)
end
theorem walkG {l : PySem.W.OpenLaw} {n k : Nat} {q : Program} {loose : List Str} {XP : (Str → Option Value) → Heap → Prop} {YP : World → Heap → Prop} {d : DefRec} {K : Params → PySem.W.Frag} {sp : World → Sp} {x : Str}
    (h1 : l.most = some n) (h2 : n ≤ sizeLine) (h3 : d.params.defaults = []) (h4 : Room k callerA) (h5 : ∀ (w : World) (h : Heap), YP w h → (K w.params).In h)
    (F : ∀ (w : World) (mg : Str → Option Value) (fa : Addr) (h : Heap), (K w.params).In h → h.Ns mainGlobals mg → mg d.name = some (.ref fa) → ∃ fd : FuncData, (∀ (s : Shared) (u : Value), BindsTo s fd ⟨[u], []⟩ [(x, u)]) ∧
      ∀ base : Heap, (K w.params).In base → base.Ns mainGlobals mg → FnG l.prog w (K w.params) mg base CX0 k fa fd [x] (sp w))
    (says : ∀ (w : World) (H : Hp) (a : Addr) (ns : List Int), ns.length ≤ n → Only H → SqL (K w.params) H a (ns.map V.int) → sp w [.ref a] H (fun v _ => v = .bl true) fun _ _ _ => False)
    (quiet : ∀ (w : World) (H : Hp) (s : Shared) (e : Value) (s' : Shared), CX0 [] H s (fun _ _ _ => False) e s' → False) :
    PySem.W.WalkO q loose XP YP l.row.toRowW d [] (fun f vs => PySem.call f vs) :=
  Att.attach_call h1 h3 fun w s₀ s₁ mg mb fa o pm cd doc a vs ns G Y ho hd hcd hmg hobj hints hlen hg => by
    obtain ⟨fd, bd, hF⟩ := F w mg fa _ (h5 w _ Y) G.T.g hmg
    exact lawG (h5 w _ Y) G.T.g G.T.b G.T.builtins G.T.nolimit hg hobj hints (Nat.le_trans hlen h2) h4 hF bd (fun H only sq => says w H a ns hlen only sq) fun H e s' => quiet w H s₁ e s'
end Jv

/-! ### == and != of an instance whose class has its own __eq__: any answer, against an instance or a tuple -/
namespace Jv
open PySem PySem.Spec PyProof.Rows L2
section
variable {prog : Program} {w : World} {A : Around} {E : Value → Shared → Prop} {s : Shared} {K : PySem.W.Frag} {x C L f : Addr} {h₀ : Heap} {m : Str → Option Value} {ox : Obj} {od : Option Obj} {b tb : Value}
theorem ifBoundB {M : Model} {name : Str} {id : String} {args : List Value} {Q : Option Value → Shared → Prop} (X : K.In s.heap) (I : PySem.W.InstAt s.heap x ox C od) (hs : PySem.W.findIn K (.ref C) name = some (some (.builtin id)))
    (hb : ∀ self, bindSpecial (.builtin id) self = pure (.builtin id, [self])) (h : wpAny M A (call (.builtin id) (.ref x :: args)) (fun v => Q (some v)) E s) : wpAny M A (callSpecialIfBound? (.ref x) name args) Q E s := by
  simp only [callSpecialIfBound?, bindSpecialIfBound?]
  refine wpAny_holding (wpAny_bind (wpAny_bind (wpAny_bind (I.type.here ((PySem.W.looks_findIn X hs).here ?_)))))
  refine wpAny_bind (wpAny_askSetting (wpAny_ite ?_))
  have fin : wpAny M A (call (.builtin id) ([.ref x] ++ args) >>= fun v => pure (some v)) Q E s := wpAny_bind (wpAny_mono h (fun v s' h' => wpAny_pure h') fun _ _ h' => h')
  simp only [hb]
  split
  · exact wpAny_bind (wpAny_pure (wpAny_pure (by exact fin)))
  · exact wpAny_tryCatch (wpAny_bind (wpAny_pure (wpAny_pure (by exact fin))))
/-- object.__ne__ asks __eq__ and turns its answer round -/
theorem obj_ne {Q : Value → Shared → Prop} (hu : A.in1.units < cLine) (X : K.In s.heap) (I : PySem.W.InstAt s.heap x ox C od) (hm : PySem.W.mroIn K C (.type "object") = some true) (hr : PySem.W.findIn K (.ref C) "__eq__" = some (some (.ref f))) (hf : PySem.W.isFn K (.ref f) = true)
    (h : wpAny (model prog w) A.in1 (call (.ref f) [.ref x, b]) (fun v s' => ∃ r, v = .bool r ∧ Q (.bool (!r)) s') E s) : wpAny (model prog w) A (call (.builtin "object.__ne__") [.ref x, b]) Q E s := by
  refine wpAny_call (codeAny_call_builtin PySem.F.slot_object_ne.plain PySem.F.entry_object_ne (PySem.W.check_slot (i := "object.__ne__") (owner := "object") (n := "__ne__") PySem.F.cmpKind_ne PySem.F.cmpSplit_ne (I.type.andThen (PySem.W.looks_mroIn X hm)) (PySem.F.cmpArgs_ne _ _) ?_))
  unfold Builtin.«object.__ne__»
  refine wpAny_bind (m := slotArgs "__ne__" 1 _) (wpAny_pure ?_)
  show wpAny _ A.in1 (do
    cRoomFor "comparison" [.ref x, b]
    let r ← callSpecialIfBound? (.ref x) (Str.ofString "__eq__") [b]
    _) _ _ s
  refine wpAny_bind (m := cRoomFor _ _) (wpAny_cRoomFor hu ?_)
  refine wpAny_bind (m := callSpecialIfBound? (.ref x) (Str.ofString "__eq__") _) (PySem.W.ifBound_K X I hr hf (wpAny_mono h (fun r s' hq => ?_) fun _ _ y => y))
  obtain ⟨r, rfl, hq⟩ := hq
  repeat (first | exact hq | exact wpAny_pure hq | (refine wpAny_bind (m := truthy (.bool _)) (wpAny_truthy_bool ?_)) | wp_step)
theorem ne_K {Q : Value → Shared → Prop} (hu : A.units < cLine) (hu1 : A.in1.units < cLine) (F : Fr h₀ L s.heap m) (X₀ : K.In h₀) (I : PySem.W.InstAt s.heap x ox C od) (hb : PySem.W.Looks (model prog w) s.heap (typeOf b) tb) (hn : PySem.W.notFirst K C tb = true)
    (hs : PySem.W.findIn K (.ref C) "__ne__" = some (some (.builtin "object.__ne__"))) (hm : PySem.W.mroIn K C (.type "object") = some true) (hr : PySem.W.findIn K (.ref C) "__eq__" = some (some (.ref f))) (hf : PySem.W.isFn K (.ref f) = true)
    (h : wpAny (model prog w) A.in1 (call (.ref f) [.ref x, b]) (fun v s' => ∃ r, v = .bool r ∧ Q (.bool (!r)) s') E s) : wpAny (model prog w) A (richCompare .NotEq (.ref x) b) Q E s := by
  have X := X₀.keeps F.keep
  have one : wpAny (model prog w) A (tryCompare (.ref x) "__ne__" b) (fun r s' => ∃ v, r = some v ∧ Q v s') E s := by
    unfold tryCompare
    refine wpAny_bind (ifBoundB X I hs PySem.F.slot_object_ne.bind (obj_ne hu1 X I hm hr hf (wpAny_mono h (fun v s' hv => ?_) fun _ _ e => e)))
    obtain ⟨r, rfl, hq⟩ := hv
    exact ⟨r, rfl, wpAny_pure ⟨_, rfl, hq⟩⟩
  unfold richCompare
  simp only [oneThing_ref]
  refine wpAny_holding (wpAny_bind (wpAny_cRoomFor hu ?_))
  rw [cmpInfo_NotEq]
  dsimp only
  refine wpAny_bind (I.type.here (wpAny_bind (hb.here ?_)))
  split
  · rename_i q
    have e : PySem.W.subIn K tb (.ref C) = some false := by
      rcases Bool.or_eq_true_iff.mp hn with e | e
      · rw [beq_iff_eq.mp e] at q; simp at q
      · exact beq_iff_eq.mp e
    refine wpAny_bind ((PySem.W.looks_subIn X e).here ?_)
    simp only [Bool.false_eq_true, if_false]
    refine wpAny_bind (wpAny_mono one (fun r s' z => ?_) fun _ _ e => e)
    obtain ⟨v, rfl, hq⟩ := z
    exact wpAny_pure hq
  · refine wpAny_bind (wpAny_pure ?_)
    simp only [Bool.false_eq_true, if_false]
    refine wpAny_bind (wpAny_mono one (fun r s' z => ?_) fun _ _ e => e)
    obtain ⟨v, rfl, hq⟩ := z
    exact wpAny_pure hq
end
section
variable {X : Cx} {CX : CXT} {pins : List (Addr × Obj)} {σ : L2.St} {H : Hp} {s : Shared} {C f : Addr} {fd : FuncData} {ps : List Str} {k : Nat} {sp : Sp} {E : XK}
theorem run_in {A : Around} {Q : VK} {us : List Value} {ws : List V} (F : FnOk X.prog X.w X.K X.mg X.base CX k f fd ps sp) (hb : Binds X.K fd ps []) (hr : Room k A) (hf : A.frames = X.A.frames) (hx : Passes CX X E) (I : Inv X pins σ H s) (r : Vals ws us) (h : sp ws H Q E) :
    wpAny (model X.prog X.w) A (call (.ref f) us) (EP X pins σ Q) X.xe s := by
  have e0 : Env0 X.prog X.w X.K X.mg X.base A X.stack s H := by
    have e := I.env0
    exact ⟨by rw [hf]; exact e.frames, e.mod, e.bs, e.bsz, e.funs, e.frf, e.hok, e.bare⟩
  have hl : us.length = ps.length := by rw [← r.length]; exact F.len _ _ _ _ h
  refine wpAny_call (codeAny_mono (F.run A X.stack s H ⟨us, []⟩ us ws Q E hr e0 (by
    have := hb s us I.kIn (by simpa using hl)
    simpa using this) r h) fun r s' hq => ?_)
  cases r with
  | error e => exact hx pins σ H s e s' I hq
  | ok fl =>
    cases fl with
    | ret u => exact I.after hq
    | next => exact False.elim hq
    | brk => exact False.elim hq
    | cont => exact False.elim hq
/-- x op y: x an instance of the class at C, y one too or a tuple -/
def rEqO (K : PySem.W.Frag) (C : Addr) (sp : Sp) (E : XK) : R2 := fun x y H Q => ∃ a dx fs b, x = .ref a ∧ y = .ref b ∧ H a = some (.ins C dx fs) ∧ ((∃ dy gs, H b = some (.ins C dy gs)) ∨ ∃ ys, SqT K H b ys) ∧ sp [x, y] H (fun v H' => ∃ r, v = .bl r ∧ Q (.bl r) H') E
def rNeO (K : PySem.W.Frag) (C : Addr) (sp : Sp) (E : XK) : R2 := fun x y H Q => ∃ a dx fs b, x = .ref a ∧ y = .ref b ∧ H a = some (.ins C dx fs) ∧ ((∃ dy gs, H b = some (.ins C dy gs)) ∨ ∃ ys, SqT K H b ys) ∧ sp [x, y] H (fun v H' => ∃ r, v = .bl r ∧ Q (.bl (!r)) H') E
theorem looksO {b : Addr} (I : Inv X pins σ H s) (nt : PySem.W.notFirst X.K C (.type "tuple") = true) (h : (∃ dy gs, H b = some (.ins C dy gs)) ∨ ∃ ys, SqT X.K H b ys) : ∃ tb, PySem.W.Looks (model X.prog X.w) s.heap (typeOf (.ref b)) tb ∧ PySem.W.notFirst X.K C tb = true := by
  rcases h with ⟨dy, gs, hb⟩ | ⟨ys, hb⟩
  · obtain ⟨mB, J', _⟩ := ins_get I.hok hb
    obtain ⟨od', J', _⟩ := J'.look
    exact ⟨.ref C, J'.type, by simp [PySem.W.notFirst]⟩
  · obtain ⟨its, r, e, z⟩ := I.tuple hb
    obtain ⟨o, ho, hc, n, hd⟩ := id e
    have h1 : PySem.W.Looks (model X.prog X.w) s.heap (typeOf (.ref b)) o.cls := PySem.W.Looks.ld (part := none) ho |>.andThen .now
    rw [hc] at h1
    exact ⟨_, h1, nt⟩
theorem op_eqO (F : FnOk X.prog X.w X.K X.mg X.base CX k f fd ps sp) (hm : Meth X.K C "__eq__" f) (nt : PySem.W.notFirst X.K C (.type "tuple") = true) (hr : Room k X.A) (hb : Binds X.K fd ps []) (hx : Passes CX X E) : OpR X (compareOp .Eq) (rEqO X.K C sp E) := by
  intro pins s σ H x y v u Q I rx ry h
  obtain ⟨a, dx, fs, b, rfl, rfl, ha, hy, q⟩ := h
  cases (show v = Value.ref a from rx)
  cases (show u = Value.ref b from ry)
  obtain ⟨mA, J, _⟩ := ins_get I.hok ha
  obtain ⟨od, J, _⟩ := J.look
  obtain ⟨m, hF⟩ := I.fr
  obtain ⟨tb, hl, hn⟩ := looksO I nt hy
  show wpAny (model X.prog X.w) X.A (richCompare .Eq (.ref a) (.ref b)) _ _ s
  refine PySem.W.cmp_K (op := .Eq) (tb := tb) hr.units0 hF I.ok.mod.kin J hl hn hm.at_ hm.fn ?_
  refine wpAny_mono (run_in (us := [.ref a, .ref b]) (ws := [.ref a, .ref b]) F hb hr rfl hx I (.cons rfl (.cons rfl .nil)) q) (fun w s' z => ?_) fun _ _ x => x
  obtain ⟨z', H', I', rz, r, er, qz⟩ := z
  subst er
  cases (show w = Value.bool r from rz)
  exact ⟨.bl r, H', I', rfl, qz⟩
theorem op_neO (F : FnOk X.prog X.w X.K X.mg X.base CX k f fd ps sp) (hm : Meth X.K C "__eq__" f) (hs : PySem.W.findIn X.K (.ref C) "__ne__" = some (some (.builtin "object.__ne__"))) (ho : PySem.W.mroIn X.K C (.type "object") = some true) (nt : PySem.W.notFirst X.K C (.type "tuple") = true)
    (hr : Room (k + 1) X.A) (hb : Binds X.K fd ps []) (hx : Passes CX X E) : OpR X (compareOp .NotEq) (rNeO X.K C sp E) := by
  intro pins s σ H x y v u Q I rx ry h
  obtain ⟨a, dx, fs, b, rfl, rfl, ha, hy, q⟩ := h
  cases (show v = Value.ref a from rx)
  cases (show u = Value.ref b from ry)
  obtain ⟨mA, J, _⟩ := ins_get I.hok ha
  obtain ⟨od, J, _⟩ := J.look
  obtain ⟨m, hF⟩ := I.fr
  obtain ⟨tb, hl, hn⟩ := looksO I nt hy
  show wpAny (model X.prog X.w) X.A (richCompare .NotEq (.ref a) (.ref b)) _ _ s
  refine ne_K (tb := tb) hr.units0 hr.in1.units0 hF I.ok.mod.kin J hl hn hs ho hm.at_ hm.fn ?_
  refine wpAny_mono (run_in (us := [.ref a, .ref b]) (ws := [.ref a, .ref b]) F hb hr.in1 rfl hx I (.cons rfl (.cons rfl .nil)) q) (fun w s' z => ?_) fun _ _ x => x
  obtain ⟨z', H', I', rz, r, er, qz⟩ := z
  subst er
  cases (show w = Value.bool r from rz)
  exact ⟨r, rfl, .bl (!r), H', I', rfl, qz⟩
end
/-- what isinstance takes as the type of a tuple -/
theorem tyT {K : PySem.W.Frag} {H : Hp} {a : Addr} {xs : List V} (h : SqT K H a xs) : TyX K H (.ref a) (.type "tuple") := by
  rcases h with (h | ⟨o, h⟩) | h
  · exact .base (.tup h)
  · exact .fTuple h
  · obtain ⟨o, _, _, e, c, _⟩ := h
    exact .kTuple e c
end Jv

/-! ### isinstance of an exception that an except clause has caught -/
namespace Jv
open PySem PySem.Spec PyProof.Rows L2
structure XiC (K : PySem.W.Frag) (C : Addr) : Prop where
  cl : (PySem.W.clsIn K C).isSome = true
  ga : PySem.W.findIn K (.ref C) "__getattribute__" = some (some (.builtin "BaseException.__getattribute__"))
  gg : PySem.W.findIn K (.ref C) "__getattr__" = some none
  ex : PySem.W.subIn K (.ref C) (.type "BaseException") = some true
  ca : PySem.W.findIn K (.ref C) "__class__" = some (some (.builtin "object.__class__"))
  sp : PySem.W.specialIn K (.builtin "object.__class__") "__get__" = some (some (.builtin "getset_descriptor.__get__"))
  tk : PySem.W.takesIn K (.builtin "object.__class__") = some true
  mr : PySem.W.mroIn K C (.type "object") = some true
/-- isinstance(e, c): a the caught one, of an own class C, that has no fields -/
def rIsX (K : PySem.W.Frag) (a : Addr) (cls : Value) (d : Option Addr) : List V → Hp → VK → Prop := fun xs H Q => ∃ (C : Addr) (c : V) (u : Value) (b : Bool), cls = .ref C ∧ d = none ∧ XiC K C ∧ xs = [.ref a, c] ∧ ClsV c u ∧ PySem.W.kitOne K (.ref C) u = some b ∧ Q (.bl b) H
theorem call_isX {X : Cx} {a : Addr} {cls : Value} {d : Option Addr} {oe : Obj} {pn : List (Addr × Obj)} (hz : Zc cls d oe) (hf : ∃ vs, oe.data = .fields vs) : CallR (X.suite a ((a, oe) :: pn)) (.builtin "isinstance") (rIsX X.K a cls d) := by
  intro pins s σ H xs us Q I r h
  obtain ⟨C, c, u, b, rfl, rfl, T, rfl, k, e, q⟩ := h
  obtain ⟨u1, u2, rfl, r1, r2⟩ := vals2 r
  have e2 := k.eq r2
  subst e2
  obtain rfl : u1 = Value.ref a := r1
  obtain ⟨ha, _⟩ := I.pin (a, oe) (List.mem_append_left _ List.mem_cons_self)
  obtain ⟨vs, hd⟩ := hf
  have J : PySem.W.InstAt s.heap a oe C none := ⟨ha, hz.1, by unfold PySem.W.notCls; rw [hd] <;> rfl, by rw [hz.2]; trivial⟩
  exact PySem.W.kia_one (PySem.W.kitx_exc T.cl T.ga T.gg T.ex T.ca T.sp T.tk T.mr) I.kIn J e (fun z => nomatch z) fun tk => ⟨.bl b, H, I.tok tk, rfl, q⟩
theorem takes_len {X : Cx} {W : WX} (t : Takes X W) : Takes X (fun cls d σ H => σ.length = X.N.length → W cls d σ H) := fun u s' ⟨a, B, sI, pins, σ, H, cls, d, e, I, nb, up, sky, na, os, ag, w⟩ =>
  t u s' ⟨a, B, sI, pins, σ, H, cls, d, e, I, nb, up, sky, na, os, ag, w I.len⟩
/-- a call whose wish of raises is chosen at the call -/
theorem pe_exL {X : Cx} {e : Expr} {W : WX} {t : XK → TE} {n : Nat} (hn : X.N.length = n) (tk : Takes X W) (h : ∀ (E : XK) (W' : WX), Takes X W' → (∀ cls d σ' H', E cls d H' → W' cls d σ' H') → PE X e (t E)) :
    PE X e (fun σ H Q => ∃ E : XK, (∀ cls d σ' H', E cls d H' → σ'.length = n → W cls d σ' H') ∧ t E σ H Q) := by
  subst hn
  exact ⟨fun pins s σ H Q I hh => by
    obtain ⟨E, hW, q⟩ := hh
    exact (h E _ (takes_len tk) hW).run pins s σ H Q I q⟩
theorem slots3 {σ : L2.St} (h : σ.length = 3) : ∃ x y z, σ = [x, y, z] := by
  match σ, h with
  | [x, y, z], _ => exact ⟨x, y, z, rfl⟩
end Jv

/-! ### tuples whose object is known: displays, sums; .index of a list or of such a tuple; repr of anything; calls where no text is under way -/
namespace Jv
open PySem PySem.Spec PyProof.Rows L2
/-- tuples of which is known that they have no dict of their own -/
def FzT (H : Hp) (t : Addr) : Prop := ∃ o u, H t = some (.frz o u) ∧ o.cls = .type "tuple" ∧ o.dict = none
theorem FzT.same {H H' : Hp} {t : Addr} (h : FzT H t) (s : Same H H') : FzT H' t := by
  obtain ⟨o, u, e, c⟩ := h
  exact ⟨o, u, s _ _ e, c⟩
section
variable {X : Cx} {es : List Expr} {t : TA} {pos : Pos}
def tTupF (t : TA) : TE := fun σ H Q => t σ H fun xs H1 => xs.length ≤ sizeLine ∧ ∀ p o, H1 p = none → o.cls = .type "tuple" → o.dict = none → Q (.ref p) (upd H1 p (.frz o (.tup xs)))
theorem pe_tupF {x1} (h : PA X es t) : PE X (.Tuple es x1 pos) (tTupF t) := by
  refine ⟨fun pins s σ H Q I hq => ?_⟩
  refine wpAny_Tuple_spliced (thn (h.run pos pins s σ H _ I hq) fun us s1 ⟨xs, H1, I1, r, z, q⟩ => ⟨by rw [← r.length]; exact z, ?_⟩)
  have at1 : (s1.heap.push ({ cls := .type "tuple", data := .seq us.toArray } : Obj)).get? s1.heap.objs.size = some { cls := .type "tuple", data := .seq us.toArray } := Heap.get?_push_size _ rfl
  have I2 : Inv X pins σ (upd H1 s1.heap.objs.size (.frz { cls := .type "tuple", data := .seq us.toArray } (.tup xs))) { s1 with heap := s1.heap.push { cls := .type "tuple", data := .seq us.toArray } } :=
    I1.laid (t' := s1.toks) (fun b o e => Heap.get?_push_of_some _ e) (Nat.le_refl _) (show ObjOk X.prog X.w _ _ _ (.frz _ (.tup xs)) from ⟨at1, z, us, r, IsTup.new _ _⟩)
  exact ⟨.ref s1.heap.objs.size, _, I2, rfl, q _ _ (I1.hok.fresh (Nat.le_refl _)) rfl rfl⟩
/-- t + u: one of them, or a new one -/
def rCatF (K : PySem.W.Frag) : R2 := fun x y H Q => ∃ a b xs ys, x = .ref a ∧ y = .ref b ∧ SqT K H a xs ∧ SqT K H b ys ∧ xs.length + ys.length ≤ sizeLine ∧
  (xs = [] → Q (.ref b) H) ∧ (xs ≠ [] → ys = [] → Q (.ref a) H) ∧ (xs ≠ [] → ys ≠ [] → ∀ p o, H p = none → o.cls = .type "tuple" → o.dict = none → Q (.ref p) (upd H p (.frz o (.tup (xs ++ ys)))))
theorem op_catF : OpR X (binaryOp .Add) (rCatF X.K) := by
  intro pins s σ H x y v u Q I rx ry h
  obtain ⟨a, b, xs, ys, rfl, rfl, ha, hb, hz, q0, q1, q2⟩ := h
  cases rx
  cases ry
  obtain ⟨its, r1, p1, _⟩ := I.tuple ha
  obtain ⟨its2, r2, p2, _⟩ := I.tuple hb
  by_cases hx : xs = []
  · subst hx
    cases r1
    exact cat_tup0 p1 p2 ⟨.ref b, H, I, rfl, q0 rfl⟩
  · refine HT.cat_tup p1 p2 (fun z => hx (r1.nil_iff.mp z)) (fun z => ⟨.ref a, H, I, rfl, q1 hx (r2.nil_iff.mp z)⟩) (fun z => ?_) (by rw [← r1.length, ← r2.length]; exact hz)
    have at1 : (s.heap.push ({ cls := .type "tuple", data := .seq (its ++ its2).toArray } : Obj)).get? s.heap.objs.size = some { cls := .type "tuple", data := .seq (its ++ its2).toArray } := Heap.get?_push_size _ rfl
    have I2 : Inv X pins σ (upd H s.heap.objs.size (.frz { cls := .type "tuple", data := .seq (its ++ its2).toArray } (.tup (xs ++ ys)))) { s with heap := s.heap.push { cls := .type "tuple", data := .seq (its ++ its2).toArray } } :=
      I.laid (t' := s.toks) (fun b o e => Heap.get?_push_of_some _ e) (Nat.le_refl _) (show ObjOk X.prog X.w _ _ _ (.frz _ (.tup _)) from ⟨at1, by rw [List.length_append]; exact hz, _, r1.append r2, IsTup.new _ _⟩)
    exact ⟨.ref s.heap.objs.size, _, I2, rfl, q2 hx (fun w => z (r2.nil_iff.mpr w)) _ _ (I.hok.fresh (Nat.le_refl _)) rfl rfl⟩
end
/-! ### .index -/
def rIdxT (K : PySem.W.Frag) : V → List V → Hp → VK → Prop := fun x xs H Q => ∃ (a : Addr) (ns : List Int) (z : Int) (j : Nat), x = V.ref a ∧ xs = [.int z] ∧ SqT K H a (ns.map V.int) ∧ ns[j]? = some z ∧ (∀ m, m < j → ns[m]? ≠ some z) ∧ Q (.int (j : Nat)) H
theorem eqV_ints {a b : Int} : eqV (.int a) (.int b) = decide (a = b) := by
  show (a == b) = _
  by_cases h : a = b
  · subst h; simp
  · simp [h]
theorem flatI (ns : List Int) : (ns.map V.int).all flatV = true := by
  rw [List.all_map, List.all_eq_true]; intro n _; rfl
section
variable {X : Cx}
theorem mt_idxT : MtR X "tuple.index" (rIdxT X.K) := by
  intro pins s σ H x xs v us Q I rx rs h
  obtain ⟨p, ns, z, j, rfl, rfl, hq, hy, hno, q⟩ := h
  cases rx
  obtain ⟨u, rfl, t, rfl⟩ := vals1 rs
  obtain ⟨its, r, ⟨⟨cls, dd, dt, sl⟩, ho, hc, n, hd⟩, hz⟩ := I.tuple hq
  simp only at hc hd
  subst hc hd
  have hl := r.length
  rw [List.length_map] at hl
  have hjn := (List.getElem?_eq_some_iff.mp hy).1
  have hj : j < its.toArray.size := by rw [List.size_toArray]; omega
  have at' : ∀ (m : Nat) (hm : m < its.toArray.size), ∃ y, ns[m]? = some y ∧ eqU (.int z) its.toArray[m] = decide (y = z) := fun m hm => by
    have hm' : m < ns.length := by rw [List.size_toArray] at hm; omega
    obtain ⟨w, hw, rw'⟩ := r.get (i := m) (x := .int ns[m]) (by simp [hm'])
    refine ⟨ns[m], List.getElem?_eq_getElem hm', ?_⟩
    have e := (List.getElem?_eq_some_iff.mp hw).2
    have e2 : its.toArray[m] = w := by simpa using e
    rw [e2, eqU_of rw' rfl, eqV_ints]
  refine call_meets PySem.F.slot_tuple_index ⟨_, ho, rfl⟩ PySem.F.entry_tuple_index (PySem.F.args_tuple_index_2 _ _) (TI.tuple_indexAt p its.toArray n dd sl (.int z t) (eqU (.int z)) j hj ?_ ?_)
    ⟨ho, fun w hw => mem_eqAt (x := .int z) ⟨t, rfl⟩ rfl r (flatI ns) w (by simpa using hw), ⟨.int (j : Nat), H, I.tok _, ⟨_, rfl⟩, q⟩⟩
  · obtain ⟨y, h1, h2⟩ := at' j hj
    rw [hy] at h1; cases h1
    rw [h2, decide_eq_true rfl]
  · intro m hm hmj
    obtain ⟨y, h1, h2⟩ := at' m hm
    rw [h2, decide_eq_false]; intro e; subst e; exact hno m hmj h1
/-- x.index(n), x a list or a tuple of whole numbers -/
def tIdx (K : PySem.W.Frag) (to ta : TE) : TE := fun σ H Q => to σ H fun x H1 => ta σ H1 fun y H2 => ∃ (a : Addr) (ns : List Int) (z : Int) (j : Nat), x = .ref a ∧ y = .int z ∧ H2 = H1 ∧ (SqL K H1 a (ns.map V.int) ∨ (SqT K H1 a (ns.map V.int) ∧ FzT H1 a)) ∧ ns[j]? = some z ∧ (∀ m, m < j → ns[m]? ≠ some z) ∧ Q (.int (j : Nat)) H2
theorem pe_idx {o : Expr} {to : TE} {apos cpos p1 : Pos} {x : Str} {i : Nat} (ho : PE X o to) (hN : X.N[i]? = some x) (hv : Vis X.env.scope x)
    (hbase : attributeBase o "index" X.env (eval o X.env) = eval o X.env := by rfl)
    (hfew : ((backTo cpos (starEach [.Name x p1] X.env)).all (fun x => !x.1) && (backToKw cpos (keywordEach [] X.env)).all (fun x => x.1.isSome)
      && decide ([Expr.Name x p1].length + ([] : List Keyword).length + (if ([] : List Keyword).isEmpty then 0 else 1) < 30)) = true := by rfl)
    (hline : (apos.endLine == cpos.line) = true := by rfl) (hs : starEach [.Name x p1] X.env = (false, eval (.Name x p1) X.env) :: starEach [] X.env := by rfl) (hd : (x == ("__debug__" : Str)) = false := by decide) (hcd : (x == ("__classdict__" : Str)) = false := by decide) :
    PE X (.Call (.Attribute o "index" apos) [.Name x p1] [] cpos) (tIdx X.K to (tVar i)) := by
  refine ⟨fun pins s σ H Q I h => ?_⟩
  refine wpAny_Call_method_late hbase hfew hline rfl (thn (ho.run pins s σ H _ I (show to σ H _ from h)) fun v s1 h9 => ?_)
  obtain ⟨w, H1, I1, r1, y, hσ, a, ns, z, j, ew, ey, _, hl, h1, h2, q⟩ := h9
  subst ew ey
  obtain rfl : v = Value.ref a := r1
  have args : ∀ {id : String}, MtR X id (fun x xs H Q => x = .ref a ∧ xs = [.int z] ∧ H = H1 ∧ Q (.int (j : Nat)) H) →
      wpAny (model X.prog X.w) X.A (callWith cpos (.builtin id) [.ref a] (backTo cpos (starEach [.Name x p1] X.env)) []) (EP X pins σ Q) X.xe s1 := fun {id} hm => by
    have hA := (pa_cons (pe_var (pos := p1) (i := i) hN hv hd hcd) pa_nil).run cpos pins s1 σ H1 (fun xs G => xs = [.int z] ∧ G = H1) I1 ⟨_, hσ, rfl, rfl⟩
    rw [hs] at hA ⊢
    refine Calls.callWith_builtin rfl (Calls.evalArgs_plain ?_)
    exact thn hA fun us s2 ⟨vs, H2, I2, r2, e1, e2⟩ => by
      subst e1 e2
      exact hm pins s2 σ H2 (.ref a) _ (.ref a) us Q I2 rfl r2 ⟨rfl, rfl, rfl, q⟩
  rcases hl with hl | ⟨hl, ob, u, hp, hc, hdn⟩
  · obtain ⟨its, rv, ⟨o2, n2, ho2, hc2, hd2, he2⟩, _⟩ := I1.list hl
    refine ⟨"list", "list.index", PySem.F.plainAttrs_list, PySem.F.slot_list_index, PySem.F.type_list_index, ⟨o2, ho2, hc2⟩, fun b e => by cases e; exact ⟨o2, ho2, hd2⟩, args ?_⟩
    intro pins s σ H x xs v us Q' I rx rs ⟨e1, e2, e3, qq⟩
    subst e1 e2 e3
    refine mt_index pins s σ H _ _ v us Q' I rx rs ⟨a, _, _, j, .int z, rfl, rfl, hl, rfl, flatI ns, by rw [List.getElem?_map, h1]; rfl, by rw [eqV_ints, decide_eq_true rfl], fun m z' hm e => ?_, qq⟩
    obtain ⟨n, hn, rfl⟩ := map_at e
    rw [eqV_ints, decide_eq_false]; intro e; subst e; exact h2 m hm hn
  · have hg : s1.heap.get? a = some ob := (I1.hok a _ hp).1
    refine ⟨"tuple", "tuple.index", PySem.F.plainAttrs_tuple, PySem.F.slot_tuple_index, PySem.F.type_tuple_index, ⟨ob, hg, hc⟩, fun b e => by cases e; exact ⟨ob, hg, hdn⟩, args ?_⟩
    intro pins s σ H x xs v us Q' I rx rs ⟨e1, e2, e3, qq⟩
    subst e1 e2 e3
    exact mt_idxT pins s σ H _ _ v us Q' I rx rs ⟨a, ns, z, j, rfl, rfl, hl, h1, h2, qq⟩
end

/-! ### repr of anything that the laws hand in -/
/-- a small dict of whole numbers -/
def dctD (kvs : List (Int × Int)) : PyData := .dict (kvs.map fun p => (.int p.1, .int p.2))
/-- data, or a dict of whole numbers -/
inductive Dw (K : PySem.W.Frag) (H : Hp) : V → PyData → Prop
  | dv {v : V} {d : PyData} : Dv K H v d → Dw K H v d
  | dct {a : Addr} {kvs : List (Int × Int)} : H a = some (.dK (kvs.map fun p => (.inl p.1, .int p.2))) → Dw K H (.ref a) (dctD kvs)
section
variable {K : PySem.W.Frag} {H H' : Hp} {v : V} {d : PyData} {Q : VK}
theorem Dw.same (h : Dw K H v d) (s : Same H H') : Dw K H' v d := by
  cases h with
  | dv h => exact .dv (h.same s)
  | dct h => exact .dct (s _ _ h)
theorem Dw.seq {ds : List PyData} (h : Dw K H v d) (e : seqD d = some ds) : Dv K H v d := by
  cases h with
  | dv h => exact h
  | dct h => cases e
theorem w_isS {p : Addr} (hp : H p = some (.tup [.ty "list", .ty "tuple"])) (h : Dw K H v d) (q : Q (.bl (seqD d).isSome) H) : rIsiT K [v, .ref p] H Q := by
  cases h with
  | dv h => exact d_isS hp h q
  | dct h => exact r_isS hp (.inr (.inr ⟨_, h⟩)) (by simp [sqOf, h]; exact q)
end
end Jv

/-! ### the walk through a reading -/
local macro_rules | `(tactic| walk_at "r1") => `(tactic| first
  | with_reducible refine Jv.r_seq ?_
  | with_reducible refine Jv.r_asg ?_
  | with_reducible refine Jv.r_gn ?_
  | with_reducible refine Jv.r_ret ?_
  | with_reducible refine Jv.r_retN ?_
  | with_reducible refine Jv.r_drop ?_
  | with_reducible refine Jv.r_if ?_
  | with_reducible refine Jv.r_next ?_
  | with_reducible refine Jv.r_brk ?_
  | with_reducible refine Jv.r_cont ?_
  | ((with_reducible refine' Jv.r_var ?hv ?_); (case hv => rfl))
  | with_reducible refine Jv.r_c ?_
  | with_reducible refine Jv.r_op ?_
  | with_reducible refine Jv.r_un ?_
  | with_reducible refine Jv.r_I0 ?_
  | with_reducible refine Jv.r_U ?_
  | ((with_reducible refine Jv.r_eq ?hs ?_); (case hs => rfl))
  | ((with_reducible refine Jv.r_ne ?hs ?_); (case hs => rfl))
  | with_reducible refine Jv.r_test ?_
  | with_reducible refine Jv.r_B ?_
  | with_reducible refine Jv.r_bl ?_
  | with_reducible refine Jv.r_and ?_
  | with_reducible refine Jv.r_or ?_
  | with_reducible refine Jv.r_not ?_
  | with_reducible refine Jv.r_andV ?_
  | with_reducible refine Jv.r_orV ?_
  | with_reducible refine Jv.r_notV ?_
  | with_reducible refine Jv.r_ife ?_
  | with_reducible refine Jv.r_chain ?_
  | with_reducible refine Jv.r_nil ?_
  | with_reducible refine Jv.r_cons ?_
  | with_reducible refine Jv.r_tup ?_
  | with_reducible refine Jv.r_lst ?_
  | with_reducible refine Jv.r_CB ?_
  | with_reducible refine Jv.r_call ?_
  | with_reducible refine Jv.r_callS ?_
  | with_reducible refine Jv.r_for ?_
  | with_reducible refine Jv.r_iR1 ?_
  | with_reducible refine Jv.r_iR2 ?_
  | with_reducible refine Jv.r_sub ?_
  | with_reducible refine Jv.r_int ?_)
local macro_rules | `(tactic| walk_at "r") => `(tactic| (repeat walk_at "r1"))

local macro_rules | `(tactic| walk_at "cond") => `(tactic| first
  | exact Or.inr ⟨by decide, by decide⟩
  | exact Or.inl ⟨by decide, by decide⟩
  | exact ⟨by decide, by decide⟩
  | exact ⟨by assumption, by assumption⟩
  | exact ⟨by decide, by decide, by decide⟩
  | (show (0 : Int) < _; first | decide | omega)
  | exact Jv.cdivS (by omega) (by omega)
  | exact Or.inr ⟨by omega, by omega⟩
  | exact Or.inl ⟨by omega, by omega⟩)
local macro_rules | `(tactic| walk_at "r1") => `(tactic| ((with_reducible refine Jv.r_I ?hc ?_); (case hc => walk_at "cond")))

local macro_rules | `(tactic| walk_at "ne") => `(tactic| first
  | assumption
  | exact Ne.symm (by assumption)
  | exact L2.ne_of_none (by walk_at "hp") (by assumption)
  | exact Ne.symm (L2.ne_of_none (by walk_at "hp") (by assumption)))
local macro_rules | `(tactic| walk_at "hp") => `(tactic| first
  | assumption
  | exact L2.upd_same
  | ((refine' Jv.kp ?hp1 ?hp2); (case hp2 => assumption); (case hp1 => walk_at "hp"))
  | ((refine' Jv.kpO ?hp1 ?hp2); (case hp1 => walk_at "hp"); (case hp2 => walk_at "ne")))
local macro_rules | `(tactic| walk_at "sq") => `(tactic| first
  | assumption
  | ((refine' Jv.sqT_at ?sq1); (case sq1 => walk_at "hp"))
  | ((refine' Jv.sqL_at ?sq1); (case sq1 => walk_at "hp"))
  | ((refine' Jv.sqT_new ?sq1 ?sq2); (case sq2 => assumption); (case sq1 => walk_at "sq"))
  | ((refine' Jv.sqL_new ?sq1 ?sq2); (case sq2 => assumption); (case sq1 => walk_at "sq"))
  | ((refine' L2.Same.seq ?sq1 ?sq2); (case sq1 => assumption); (case sq2 => assumption))
  | ((refine' Jv.Same.sqT ?sq1 ?sq2); (case sq1 => assumption); (case sq2 => assumption)))
local macro_rules | `(tactic| walk_at "r1") => `(tactic| first
  | ((with_reducible refine' Jv.r_gtup ?hq ?hl ?_); (case hq => walk_at "sq"); (case hl => rfl))
  | with_reducible refine Jv.r_gcons ?_
  | with_reducible refine Jv.r_gnil ?_
  | with_reducible refine Jv.r_iEn ?_
  | with_reducible refine Jv.r_iL ?_
  | with_reducible refine Jv.r_iT ?_
  | with_reducible refine Jv.r_yes ?_
  | with_reducible refine Jv.r_ift ?_
  | with_reducible refine Jv.r_iff ?_
  | ((with_reducible refine' Jv.r_new ?hn ?_); (case hn => exact Nat.le_of_ble_eq_true rfl))
  | ((with_reducible refine' Jv.r_wipe ?he ?_); (case he => rfl)))
local macro_rules | `(tactic| walk_at "len") => `(tactic| first
  | exact Or.inl (by walk_at "sq")
  | exact Or.inr (by walk_at "sq"))
local macro_rules | `(tactic| walk_at "r1") => `(tactic| first
  | ((with_reducible refine' Jv.r_ixL ?hs ?he ?_); (case hs => walk_at "sq"); (case he => rfl))
  | ((with_reducible refine' Jv.r_ixT ?hs ?he ?_); (case hs => walk_at "sq"); (case he => rfl))
  | ((with_reducible refine' Jv.r_setL ?hs ?he ?_); (case hs => walk_at "hp"); (case he => rfl))
  | ((with_reducible refine' Jv.r_len ?hs ?_); (case hs => walk_at "len")))
local macro_rules | `(tactic| walk_at "th") => `(tactic| first
  | assumption
  | exact Jv.Th.same (by assumption) (by assumption)
  | exact Jv.Th.same (by assumption) (Jv.same_new (by assumption))
  | exact trivial)
local macro_rules | `(tactic| walk_at "r1") => `(tactic| first
  | ((with_reducible refine' Jv.r_isB ?hx ?_); (case hx => walk_at "th"))
  | ((with_reducible refine' Jv.r_isI ?hx ?_); (case hx => walk_at "th"))
  | ((with_reducible refine' Jv.r_isS ?hp ?hx ?_); (case hp => walk_at "hp"); (case hx => walk_at "th"))
  | ((with_reducible refine' Jv.r_false ?he ?_); (case he => rfl))
  | ((with_reducible refine' Jv.r_true ?he ?_); (case he => rfl))
  | with_reducible refine Jv.r_rfl ?_)
local macro_rules | `(tactic| walk_at "r2") => `(tactic| first
  | walk_at "r1"
  | ((with_reducible refine' Jv.r_dec1 ?hd ?_); (case hd => omega))
  | ((with_reducible refine' Jv.r_dec0 ?hd ?_); (case hd => omega))
  | with_reducible refine Jv.r_decI (fun _ => ?_) (fun _ => ?_)
  | with_reducible refine Jv.r_ndecI (fun _ => ?_) (fun _ => ?_)
  | with_reducible refine Jv.r_dec (fun _ => ?_) (fun _ => ?_)
  | with_reducible refine Jv.r_ndec (fun _ => ?_) (fun _ => ?_))
local macro_rules | `(tactic| walk_at "rr") => `(tactic| (repeat' walk_at "r2"))
local macro_rules | `(tactic| walk_at "r1") => `(tactic| first
  | with_reducible refine Jv.r_min ?_
  | with_reducible refine Jv.r_max ?_
  | with_reducible refine Jv.r_absN ?_
  | with_reducible refine Jv.r_intN ?_)
local macro_rules | `(tactic| walk_at "r1") => `(tactic| first
  | with_reducible refine Jv.r_bm ?_
  | ((with_reducible refine' Jv.r_tyL ?hp ?_); (case hp => walk_at "hp")))

local macro_rules | `(tactic| walk_at "r1") => `(tactic| first
  | with_reducible refine Jv.r_callN ?_
  | with_reducible refine Jv.r_disp1 ?_
  | with_reducible refine Jv.r_same ?_)

local macro_rules | `(tactic| walk_at "dv") => `(tactic| first
  | assumption
  | exact Jv.Dv.same (by assumption) (by assumption)
  | exact Jv.Dv.same (Jv.same_new (by assumption)) (by assumption)
  | exact Jv.Dv.int _
  | exact Jv.Dv.non
  | exact Jv.Dv.bl _)
local macro_rules | `(tactic| walk_at "r1") => `(tactic| first
  | ((with_reducible refine' Jv.d_isB ?hx ?_); (case hx => walk_at "dv"))
  | ((with_reducible refine' Jv.d_isI ?hx ?_); (case hx => walk_at "dv"))
  | ((with_reducible refine' Jv.d_isS ?hp ?hx ?_); (case hp => walk_at "hp"); (case hx => walk_at "dv")))

namespace K07
open PySem PySem.Spec PyProof.Rows L2
def topS (i : Nat) : Stmt := PySem.Challenge.pw_risingcalls_k07_whole_goals_read_exactly.main.body.getD i (.Pass ⟨0, 0, 0, 0⟩)
abbrev s_BadGoalsu_initu : Stmt := inClass (topS 3) 0
abbrev s_BadTextu_initu : Stmt := inClass (topS 4) 0
abbrev s_is_whole : Stmt := topS 11
abbrev s_is_truth : Stmt := topS 12
abbrev s_is_sequence : Stmt := topS 13
abbrev s_are_sides : Stmt := topS 14
abbrev s_couples_of : Stmt := topS 15
abbrev s_sides_of_lines : Stmt := topS 17
abbrev s_are_ends : Stmt := topS 18
abbrev s_is_knowing : Stmt := topS 19
abbrev s_Goalsu_initu : Stmt := inClass (topS 20) 0
abbrev s_Goalsu_equ : Stmt := inClass (topS 20) 1
abbrev s_yes_or_no : Stmt := topS 24
abbrev s_goals_text : Stmt := topS 25
abbrev s_number_from : Stmt := topS 26
abbrev s_end_from : Stmt := topS 27
abbrev s_numbers_from : Stmt := topS 28
abbrev s_words_behind : Stmt := topS 29
abbrev s_numbers_behind : Stmt := topS 30
abbrev s_read_ladder : Stmt := topS 31
abbrev s_read_sides : Stmt := topS 32
abbrev s_read_truths : Stmt := topS 33
abbrev s_read_ends : Stmt := topS 34
abbrev s_read_goals : Stmt := topS 35
abbrev s_Lmix : Stmt := topS 37
abbrev s_Lhand : Stmt := topS 38
abbrev s_Ldraw : Stmt := topS 39
abbrev s_Lwhole : Stmt := topS 40
abbrev s_Lcouples : Stmt := topS 41
abbrev s_Lis : Stmt := topS 42
abbrev s_Lwide_sides : Stmt := topS 43
abbrev s_Lends : Stmt := topS 44
abbrev s_Lneat : Stmt := topS 45
abbrev s_Lraw_wanted : Stmt := topS 46
abbrev s_Lneat_wanted : Stmt := topS 47
abbrev s_Ltruths : Stmt := topS 48
abbrev s_Lgoal_facts : Stmt := topS 49
abbrev s_Lread : Stmt := topS 50
abbrev s_Lyes : Stmt := topS 51
abbrev s_Ltext : Stmt := topS 52
abbrev s_Lbent_top : Stmt := topS 53
abbrev s_Lbent_couple : Stmt := topS 54
abbrev s_Lbent_right : Stmt := topS 55
abbrev s_law : Stmt := topS 56
theorem sc_BadGoalsu_initu : FnScope ["self", "what"] ["self", "what"] (defScope s_BadGoalsu_initu) := ⟨rfl, rfl, rfl, by decide +kernel, rfl, by decide +kernel, by decide +kernel⟩
theorem sc_BadTextu_initu : FnScope ["self", "number", "what"] ["self", "number", "what"] (defScope s_BadTextu_initu) := ⟨rfl, rfl, rfl, by decide +kernel, rfl, by decide +kernel, by decide +kernel⟩
theorem sc_is_whole : FnScope ["thing", "low", "high"] ["thing", "low", "high"] (defScope s_is_whole) := ⟨rfl, rfl, rfl, by decide +kernel, rfl, by decide +kernel, by decide +kernel⟩
theorem sc_is_truth : FnScope ["thing"] ["thing"] (defScope s_is_truth) := ⟨rfl, rfl, rfl, by decide +kernel, rfl, by decide +kernel, by decide +kernel⟩
theorem sc_is_sequence : FnScope ["thing"] ["thing"] (defScope s_is_sequence) := ⟨rfl, rfl, rfl, by decide +kernel, rfl, by decide +kernel, by decide +kernel⟩
theorem sc_are_sides : FnScope ["thing", "kinds"] ["thing"] (defScope s_are_sides) := ⟨rfl, rfl, rfl, by decide +kernel, rfl, by decide +kernel, by decide +kernel⟩
theorem sc_couples_of : FnScope ["sides", "east", "west"] ["sides"] (defScope s_couples_of) := ⟨rfl, rfl, rfl, by decide +kernel, rfl, by decide +kernel, by decide +kernel⟩
theorem sc_sides_of_lines : FnScope ["lines", "lengths", "line"] ["lines"] (defScope s_sides_of_lines) := ⟨rfl, rfl, rfl, by decide +kernel, rfl, by decide +kernel, by decide +kernel⟩
theorem sc_are_ends : FnScope ["thing", "ladder", "end"] ["thing", "ladder"] (defScope s_are_ends) := ⟨rfl, rfl, rfl, by decide +kernel, rfl, by decide +kernel, by decide +kernel⟩
theorem sc_is_knowing : FnScope ["thing", "part"] ["thing"] (defScope s_is_knowing) := ⟨rfl, rfl, rfl, by decide +kernel, rfl, by decide +kernel, by decide +kernel⟩
theorem sc_Goalsu_initu : FnScope ["self", "ladder", "wanted", "knows", "sides", "line", "ends"] ["self", "ladder", "wanted", "knows"] (defScope s_Goalsu_initu) := ⟨rfl, rfl, rfl, by decide +kernel, rfl, by decide +kernel, by decide +kernel⟩
theorem sc_Goalsu_equ : FnScope ["self", "other"] ["self", "other"] (defScope s_Goalsu_equ) := ⟨rfl, rfl, rfl, by decide +kernel, rfl, by decide +kernel, by decide +kernel⟩
theorem sc_yes_or_no : FnScope ["truth"] ["truth"] (defScope s_yes_or_no) := ⟨rfl, rfl, rfl, by decide +kernel, rfl, by decide +kernel, by decide +kernel⟩
theorem sc_goals_text : FnScope ["goals", "lines", "east", "west", "ends", "end"] ["goals"] (defScope s_goals_text) := ⟨rfl, rfl, rfl, by decide +kernel, rfl, by decide +kernel, by decide +kernel⟩
theorem sc_number_from : FnScope ["word", "sign"] ["word"] (defScope s_number_from) := ⟨rfl, rfl, rfl, by decide +kernel, rfl, by decide +kernel, by decide +kernel⟩
theorem sc_end_from : FnScope ["word", "call"] ["word"] (defScope s_end_from) := ⟨rfl, rfl, rfl, by decide +kernel, rfl, by decide +kernel, by decide +kernel⟩
theorem sc_numbers_from : FnScope ["text", "word"] ["text"] (defScope s_numbers_from) := ⟨rfl, rfl, rfl, by decide +kernel, rfl, by decide +kernel, by decide +kernel⟩
theorem sc_words_behind : FnScope ["lines", "number", "head", "many", "words"] ["lines", "number", "head", "many"] (defScope s_words_behind) := ⟨rfl, rfl, rfl, by decide +kernel, rfl, by decide +kernel, by decide +kernel⟩
theorem sc_numbers_behind : FnScope ["lines", "number", "head", "many", "numbers", "word"] ["lines", "number", "head", "many"] (defScope s_numbers_behind) := ⟨rfl, rfl, rfl, by decide +kernel, rfl, by decide +kernel, by decide +kernel⟩
theorem sc_read_ladder : FnScope ["lines", "ladder"] ["lines"] (defScope s_read_ladder) := ⟨rfl, rfl, rfl, by decide +kernel, rfl, by decide +kernel, by decide +kernel⟩
theorem sc_read_sides : FnScope ["lines", "sides"] ["lines"] (defScope s_read_sides) := ⟨rfl, rfl, rfl, by decide +kernel, rfl, by decide +kernel, by decide +kernel⟩
theorem sc_read_truths : FnScope ["lines", "head", "many", "words", "word"] ["lines", "head", "many"] (defScope s_read_truths) := ⟨rfl, rfl, rfl, by decide +kernel, rfl, by decide +kernel, by decide +kernel⟩
theorem sc_read_ends : FnScope ["lines", "number", "couple", "ladder", "head", "_", "tail", "kinds", "ends", "word", "end"] ["lines", "number", "couple", "ladder"] (defScope s_read_ends) := ⟨rfl, rfl, rfl, by decide +kernel, rfl, by decide +kernel, by decide +kernel⟩
theorem sc_read_goals : FnScope ["text", "lines", "ladder", "sides", "knows", "wanted", "number", "couple", "_"] ["text"] (defScope s_read_goals) := ⟨rfl, rfl, rfl, by decide +kernel, rfl, by decide +kernel, by decide +kernel⟩
theorem sc_Lmix : FnScope ["_law_number", "_law_turn", "_law_once", "_law_twice"] ["_law_number", "_law_turn"] (defScope s_Lmix) := ⟨rfl, rfl, rfl, by decide +kernel, rfl, by decide +kernel, by decide +kernel⟩
theorem sc_Lhand : FnScope ["_law_script", "_law_total", "_law_k", "_law_cell"] ["_law_script"] (defScope s_Lhand) := ⟨rfl, rfl, rfl, by decide +kernel, rfl, by decide +kernel, by decide +kernel⟩
theorem sc_Ldraw : FnScope ["_law_hand_here", "_law_many", "_law_cell", "_law_rest"] ["_law_hand_here", "_law_many"] (defScope s_Ldraw) := ⟨rfl, rfl, rfl, by decide +kernel, rfl, by decide +kernel, by decide +kernel⟩
theorem sc_Lwhole : FnScope ["_law_thing"] ["_law_thing"] (defScope s_Lwhole) := ⟨rfl, rfl, rfl, by decide +kernel, rfl, by decide +kernel, by decide +kernel⟩
theorem sc_Lcouples : FnScope ["_law_sides", "_law_couples_here", "_law_east", "_law_west"] ["_law_sides"] (defScope s_Lcouples) := ⟨rfl, rfl, rfl, by decide +kernel, rfl, by decide +kernel, by decide +kernel⟩
theorem sc_Lis : FnScope ["_law_thing", "_law_due"] ["_law_thing", "_law_due"] (defScope s_Lis) := ⟨rfl, rfl, rfl, by decide +kernel, rfl, by decide +kernel, by decide +kernel⟩
theorem sc_Lwide_sides : FnScope ["_law_hand_here", "_law_p", "_law_q"] ["_law_hand_here"] (defScope s_Lwide_sides) := ⟨rfl, rfl, rfl, by decide +kernel, rfl, by decide +kernel, by decide +kernel⟩
theorem sc_Lends : FnScope ["_law_hand_here", "_law_ladder", "_law_ends_here", "_law_turn"] ["_law_hand_here", "_law_ladder"] (defScope s_Lends) := ⟨rfl, rfl, rfl, by decide +kernel, rfl, by decide +kernel, by decide +kernel⟩
theorem sc_Lneat : FnScope ["_law_ends_here", "_law_ladder", "_law_end"] ["_law_ends_here", "_law_ladder"] (defScope s_Lneat) := ⟨rfl, rfl, rfl, by decide +kernel, rfl, by decide +kernel, by decide +kernel⟩
theorem sc_Lraw_wanted : FnScope ["_law_hand_here", "_law_sides", "_law_ladder", "_law_lines", "_law_east", "_law_line", "_law_west", "_law_ends_here"] ["_law_hand_here", "_law_sides", "_law_ladder"] (defScope s_Lraw_wanted) := ⟨rfl, rfl, rfl, by decide +kernel, rfl, by decide +kernel, by decide +kernel⟩
theorem sc_Lneat_wanted : FnScope ["_law_lines", "_law_ladder", "_law_line", "_law_ends_here"] ["_law_lines", "_law_ladder"] (defScope s_Lneat_wanted) := ⟨rfl, rfl, rfl, by decide +kernel, rfl, by decide +kernel, by decide +kernel⟩
theorem sc_Ltruths : FnScope ["_law_hand_here"] ["_law_hand_here"] (defScope s_Ltruths) := ⟨rfl, rfl, rfl, by decide +kernel, rfl, by decide +kernel, by decide +kernel⟩
theorem sc_Lgoal_facts : FnScope ["_law_goals", "_law_ladder", "_law_wanted", "_law_known", "_law_line", "_law_ends_here", "_law_end"] ["_law_goals", "_law_ladder", "_law_wanted", "_law_known"] (defScope s_Lgoal_facts) := ⟨rfl, rfl, rfl, by decide +kernel, rfl, by decide +kernel, by decide +kernel⟩
theorem sc_Lread : FnScope ["_law_text_here", "e"] ["_law_text_here"] (defScope s_Lread) := ⟨rfl, rfl, rfl, by decide +kernel, rfl, by decide +kernel, by decide +kernel⟩
theorem sc_Lyes : FnScope ["_law_truth"] ["_law_truth"] (defScope s_Lyes) := ⟨rfl, rfl, rfl, by decide +kernel, rfl, by decide +kernel, by decide +kernel⟩
theorem sc_Ltext : FnScope ["_law_ladder", "_law_sides", "_law_knows", "_law_wanted", "_law_lines", "_law_couple", "_law_ends_here", "_law_end"] ["_law_ladder", "_law_sides", "_law_knows", "_law_wanted"] (defScope s_Ltext) := ⟨rfl, rfl, rfl, by decide +kernel, rfl, by decide +kernel, by decide +kernel⟩
theorem sc_Lbent_top : FnScope ["_law_hand_here", "_law_at", "_law_line", "_law_bent"] ["_law_hand_here", "_law_at", "_law_line"] (defScope s_Lbent_top) := ⟨rfl, rfl, rfl, by decide +kernel, rfl, by decide +kernel, by decide +kernel⟩
theorem sc_Lbent_couple : FnScope ["_law_hand_here", "_law_couple", "_law_ends_here", "_law_ladder", "_law_head", "_law_tail", "_law_strange", "_law_bent", "_law_end"] ["_law_hand_here", "_law_couple", "_law_ends_here", "_law_ladder"] (defScope s_Lbent_couple) := ⟨rfl, rfl, rfl, by decide +kernel, rfl, by decide +kernel, by decide +kernel⟩
theorem sc_Lbent_right : FnScope ["_law_hand_here", "_law_goal", "_law_lines", "_law_ladder", "_law_sides", "_law_wanted", "_law_bent", "_law_due", "_law_turn", "_law_at", "_law_line", "_law_what", "_law_couple", "_law_last"] ["_law_hand_here", "_law_goal", "_law_lines"] (defScope s_Lbent_right) := ⟨rfl, rfl, rfl, by decide +kernel, rfl, by decide +kernel, by decide +kernel⟩
theorem sc_law : FnScope ["_law_script", "_law_hand_here", "_law_turn", "_law_sides", "_law_ladder", "_law_wanted", "_law_knows", "_law_goals", "_law_lines", "_law_text_here", "_law_back", "_law_bend", "_law_many", "_law_short", "_law_more"] ["_law_script"] (defScope s_law) := ⟨rfl, rfl, rfl, by decide +kernel, rfl, by decide +kernel, by decide +kernel⟩
structure Tx where
  f_BadGoalsu_initu : Addr
  d_BadGoalsu_initu : FuncData
  f_BadTextu_initu : Addr
  d_BadTextu_initu : FuncData
  f_is_whole : Addr
  d_is_whole : FuncData
  f_is_truth : Addr
  d_is_truth : FuncData
  f_is_sequence : Addr
  d_is_sequence : FuncData
  f_are_sides : Addr
  d_are_sides : FuncData
  f_couples_of : Addr
  d_couples_of : FuncData
  f_sides_of_lines : Addr
  d_sides_of_lines : FuncData
  f_are_ends : Addr
  d_are_ends : FuncData
  f_is_knowing : Addr
  d_is_knowing : FuncData
  f_Goalsu_initu : Addr
  d_Goalsu_initu : FuncData
  f_Goalsu_equ : Addr
  d_Goalsu_equ : FuncData
  f_yes_or_no : Addr
  d_yes_or_no : FuncData
  f_goals_text : Addr
  d_goals_text : FuncData
  f_number_from : Addr
  d_number_from : FuncData
  f_end_from : Addr
  d_end_from : FuncData
  f_numbers_from : Addr
  d_numbers_from : FuncData
  f_words_behind : Addr
  d_words_behind : FuncData
  f_numbers_behind : Addr
  d_numbers_behind : FuncData
  f_read_ladder : Addr
  d_read_ladder : FuncData
  f_read_sides : Addr
  d_read_sides : FuncData
  f_read_truths : Addr
  d_read_truths : FuncData
  f_read_ends : Addr
  d_read_ends : FuncData
  f_read_goals : Addr
  d_read_goals : FuncData
  f_Lmix : Addr
  d_Lmix : FuncData
  f_Lhand : Addr
  d_Lhand : FuncData
  f_Ldraw : Addr
  d_Ldraw : FuncData
  f_Lwhole : Addr
  d_Lwhole : FuncData
  f_Lcouples : Addr
  d_Lcouples : FuncData
  f_Lis : Addr
  d_Lis : FuncData
  f_Lwide_sides : Addr
  d_Lwide_sides : FuncData
  f_Lends : Addr
  d_Lends : FuncData
  f_Lneat : Addr
  d_Lneat : FuncData
  f_Lraw_wanted : Addr
  d_Lraw_wanted : FuncData
  f_Lneat_wanted : Addr
  d_Lneat_wanted : FuncData
  f_Ltruths : Addr
  d_Ltruths : FuncData
  f_Lgoal_facts : Addr
  d_Lgoal_facts : FuncData
  f_Lread : Addr
  d_Lread : FuncData
  f_Lyes : Addr
  d_Lyes : FuncData
  f_Ltext : Addr
  d_Ltext : FuncData
  f_Lbent_top : Addr
  d_Lbent_top : FuncData
  f_Lbent_couple : Addr
  d_Lbent_couple : FuncData
  f_Lbent_right : Addr
  d_Lbent_right : FuncData
  f_law : Addr
  d_law : FuncData
  C_CallError : Addr
  C_BadGoals : Addr
  C_BadText : Addr
  C_Goals : Addr
  t_EAST : Tok
  t_WEST : Tok
  t_LADDER_MOST : Tok
  t_KINDS_MOST : Tok
  t_COUPLES_MOST : Tok
  t_FIGURES : Tok
  t_FIGURES_MOST : Tok
  e1_is_whole : List Value
  e2_is_whole : List Value
  e1_Goalsu_initu : List Value
  w0_Goalsu_initu : Addr
structure Ok (K : PySem.W.Frag) (mg : Str → Option Value) (T : Tx) : Prop where
  F_BadGoalsu_initu : Fun K "__init__" "BadGoals.__init__" s_BadGoalsu_initu T.f_BadGoalsu_initu T.d_BadGoalsu_initu
  b_BadGoalsu_initu : Binds K T.d_BadGoalsu_initu ["self", "what"] []
  F_BadTextu_initu : Fun K "__init__" "BadText.__init__" s_BadTextu_initu T.f_BadTextu_initu T.d_BadTextu_initu
  b_BadTextu_initu : Binds K T.d_BadTextu_initu ["self", "number", "what"] []
  F_is_whole : FunD K "is_whole" "is_whole" (defArgs s_is_whole) (defBody s_is_whole) (defScope s_is_whole) [.non, .non] [] T.f_is_whole T.d_is_whole
  m_is_whole : mg "is_whole" = some (.ref T.f_is_whole)
  b_is_whole : Binds K T.d_is_whole ["thing", "low", "high"] []
  b1_is_whole : Vals [.non] T.e1_is_whole ∧ Binds K T.d_is_whole ["thing", "low", "high"] T.e1_is_whole
  b2_is_whole : Vals [.non, .non] T.e2_is_whole ∧ Binds K T.d_is_whole ["thing", "low", "high"] T.e2_is_whole
  F_is_truth : Fun K "is_truth" "is_truth" s_is_truth T.f_is_truth T.d_is_truth
  m_is_truth : mg "is_truth" = some (.ref T.f_is_truth)
  b_is_truth : Binds K T.d_is_truth ["thing"] []
  F_is_sequence : Fun K "is_sequence" "is_sequence" s_is_sequence T.f_is_sequence T.d_is_sequence
  m_is_sequence : mg "is_sequence" = some (.ref T.f_is_sequence)
  b_is_sequence : Binds K T.d_is_sequence ["thing"] []
  F_are_sides : Fun K "are_sides" "are_sides" s_are_sides T.f_are_sides T.d_are_sides
  m_are_sides : mg "are_sides" = some (.ref T.f_are_sides)
  b_are_sides : Binds K T.d_are_sides ["thing"] []
  F_couples_of : Fun K "couples_of" "couples_of" s_couples_of T.f_couples_of T.d_couples_of
  m_couples_of : mg "couples_of" = some (.ref T.f_couples_of)
  b_couples_of : Binds K T.d_couples_of ["sides"] []
  F_sides_of_lines : Fun K "sides_of_lines" "sides_of_lines" s_sides_of_lines T.f_sides_of_lines T.d_sides_of_lines
  m_sides_of_lines : mg "sides_of_lines" = some (.ref T.f_sides_of_lines)
  b_sides_of_lines : Binds K T.d_sides_of_lines ["lines"] []
  F_are_ends : Fun K "are_ends" "are_ends" s_are_ends T.f_are_ends T.d_are_ends
  m_are_ends : mg "are_ends" = some (.ref T.f_are_ends)
  b_are_ends : Binds K T.d_are_ends ["thing", "ladder"] []
  F_is_knowing : Fun K "is_knowing" "is_knowing" s_is_knowing T.f_is_knowing T.d_is_knowing
  m_is_knowing : mg "is_knowing" = some (.ref T.f_is_knowing)
  b_is_knowing : Binds K T.d_is_knowing ["thing"] []
  F_Goalsu_initu : FunD K "__init__" "Goals.__init__" (defArgs s_Goalsu_initu) (defBody s_Goalsu_initu) (defScope s_Goalsu_initu) [(.ref T.w0_Goalsu_initu)] [] T.f_Goalsu_initu T.d_Goalsu_initu
  y0_Goalsu_initu : ∀ H : Hp, SqT K H T.w0_Goalsu_initu [(.bl false), (.bl false)]
  b_Goalsu_initu : Binds K T.d_Goalsu_initu ["self", "ladder", "wanted", "knows"] []
  b1_Goalsu_initu : Vals [(.ref T.w0_Goalsu_initu)] T.e1_Goalsu_initu ∧ Binds K T.d_Goalsu_initu ["self", "ladder", "wanted", "knows"] T.e1_Goalsu_initu
  F_Goalsu_equ : Fun K "__eq__" "Goals.__eq__" s_Goalsu_equ T.f_Goalsu_equ T.d_Goalsu_equ
  b_Goalsu_equ : Binds K T.d_Goalsu_equ ["self", "other"] []
  F_yes_or_no : Fun K "yes_or_no" "yes_or_no" s_yes_or_no T.f_yes_or_no T.d_yes_or_no
  m_yes_or_no : mg "yes_or_no" = some (.ref T.f_yes_or_no)
  b_yes_or_no : Binds K T.d_yes_or_no ["truth"] []
  F_goals_text : Fun K "goals_text" "goals_text" s_goals_text T.f_goals_text T.d_goals_text
  m_goals_text : mg "goals_text" = some (.ref T.f_goals_text)
  b_goals_text : Binds K T.d_goals_text ["goals"] []
  F_number_from : Fun K "number_from" "number_from" s_number_from T.f_number_from T.d_number_from
  m_number_from : mg "number_from" = some (.ref T.f_number_from)
  b_number_from : Binds K T.d_number_from ["word"] []
  F_end_from : Fun K "end_from" "end_from" s_end_from T.f_end_from T.d_end_from
  m_end_from : mg "end_from" = some (.ref T.f_end_from)
  b_end_from : Binds K T.d_end_from ["word"] []
  F_numbers_from : Fun K "numbers_from" "numbers_from" s_numbers_from T.f_numbers_from T.d_numbers_from
  m_numbers_from : mg "numbers_from" = some (.ref T.f_numbers_from)
  b_numbers_from : Binds K T.d_numbers_from ["text"] []
  F_words_behind : Fun K "words_behind" "words_behind" s_words_behind T.f_words_behind T.d_words_behind
  m_words_behind : mg "words_behind" = some (.ref T.f_words_behind)
  b_words_behind : Binds K T.d_words_behind ["lines", "number", "head", "many"] []
  F_numbers_behind : Fun K "numbers_behind" "numbers_behind" s_numbers_behind T.f_numbers_behind T.d_numbers_behind
  m_numbers_behind : mg "numbers_behind" = some (.ref T.f_numbers_behind)
  b_numbers_behind : Binds K T.d_numbers_behind ["lines", "number", "head", "many"] []
  F_read_ladder : Fun K "read_ladder" "read_ladder" s_read_ladder T.f_read_ladder T.d_read_ladder
  m_read_ladder : mg "read_ladder" = some (.ref T.f_read_ladder)
  b_read_ladder : Binds K T.d_read_ladder ["lines"] []
  F_read_sides : Fun K "read_sides" "read_sides" s_read_sides T.f_read_sides T.d_read_sides
  m_read_sides : mg "read_sides" = some (.ref T.f_read_sides)
  b_read_sides : Binds K T.d_read_sides ["lines"] []
  F_read_truths : Fun K "read_truths" "read_truths" s_read_truths T.f_read_truths T.d_read_truths
  m_read_truths : mg "read_truths" = some (.ref T.f_read_truths)
  b_read_truths : Binds K T.d_read_truths ["lines", "head", "many"] []
  F_read_ends : Fun K "read_ends" "read_ends" s_read_ends T.f_read_ends T.d_read_ends
  m_read_ends : mg "read_ends" = some (.ref T.f_read_ends)
  b_read_ends : Binds K T.d_read_ends ["lines", "number", "couple", "ladder"] []
  F_read_goals : Fun K "read_goals" "read_goals" s_read_goals T.f_read_goals T.d_read_goals
  m_read_goals : mg "read_goals" = some (.ref T.f_read_goals)
  b_read_goals : Binds K T.d_read_goals ["text"] []
  F_Lmix : Fun K "_law_mix" "_law_mix" s_Lmix T.f_Lmix T.d_Lmix
  m_Lmix : mg "_law_mix" = some (.ref T.f_Lmix)
  b_Lmix : Binds K T.d_Lmix ["_law_number", "_law_turn"] []
  F_Lhand : Fun K "_law_hand" "_law_hand" s_Lhand T.f_Lhand T.d_Lhand
  m_Lhand : mg "_law_hand" = some (.ref T.f_Lhand)
  b_Lhand : Binds K T.d_Lhand ["_law_script"] []
  F_Ldraw : Fun K "_law_draw" "_law_draw" s_Ldraw T.f_Ldraw T.d_Ldraw
  m_Ldraw : mg "_law_draw" = some (.ref T.f_Ldraw)
  b_Ldraw : Binds K T.d_Ldraw ["_law_hand_here", "_law_many"] []
  F_Lwhole : Fun K "_law_whole" "_law_whole" s_Lwhole T.f_Lwhole T.d_Lwhole
  m_Lwhole : mg "_law_whole" = some (.ref T.f_Lwhole)
  b_Lwhole : Binds K T.d_Lwhole ["_law_thing"] []
  F_Lcouples : Fun K "_law_couples" "_law_couples" s_Lcouples T.f_Lcouples T.d_Lcouples
  m_Lcouples : mg "_law_couples" = some (.ref T.f_Lcouples)
  b_Lcouples : Binds K T.d_Lcouples ["_law_sides"] []
  F_Lis : Fun K "_law_is" "_law_is" s_Lis T.f_Lis T.d_Lis
  m_Lis : mg "_law_is" = some (.ref T.f_Lis)
  b_Lis : Binds K T.d_Lis ["_law_thing", "_law_due"] []
  F_Lwide_sides : Fun K "_law_wide_sides" "_law_wide_sides" s_Lwide_sides T.f_Lwide_sides T.d_Lwide_sides
  m_Lwide_sides : mg "_law_wide_sides" = some (.ref T.f_Lwide_sides)
  b_Lwide_sides : Binds K T.d_Lwide_sides ["_law_hand_here"] []
  F_Lends : Fun K "_law_ends" "_law_ends" s_Lends T.f_Lends T.d_Lends
  m_Lends : mg "_law_ends" = some (.ref T.f_Lends)
  b_Lends : Binds K T.d_Lends ["_law_hand_here", "_law_ladder"] []
  F_Lneat : Fun K "_law_neat" "_law_neat" s_Lneat T.f_Lneat T.d_Lneat
  m_Lneat : mg "_law_neat" = some (.ref T.f_Lneat)
  b_Lneat : Binds K T.d_Lneat ["_law_ends_here", "_law_ladder"] []
  F_Lraw_wanted : Fun K "_law_raw_wanted" "_law_raw_wanted" s_Lraw_wanted T.f_Lraw_wanted T.d_Lraw_wanted
  m_Lraw_wanted : mg "_law_raw_wanted" = some (.ref T.f_Lraw_wanted)
  b_Lraw_wanted : Binds K T.d_Lraw_wanted ["_law_hand_here", "_law_sides", "_law_ladder"] []
  F_Lneat_wanted : Fun K "_law_neat_wanted" "_law_neat_wanted" s_Lneat_wanted T.f_Lneat_wanted T.d_Lneat_wanted
  m_Lneat_wanted : mg "_law_neat_wanted" = some (.ref T.f_Lneat_wanted)
  b_Lneat_wanted : Binds K T.d_Lneat_wanted ["_law_lines", "_law_ladder"] []
  F_Ltruths : Fun K "_law_truths" "_law_truths" s_Ltruths T.f_Ltruths T.d_Ltruths
  m_Ltruths : mg "_law_truths" = some (.ref T.f_Ltruths)
  b_Ltruths : Binds K T.d_Ltruths ["_law_hand_here"] []
  F_Lgoal_facts : Fun K "_law_goal_facts" "_law_goal_facts" s_Lgoal_facts T.f_Lgoal_facts T.d_Lgoal_facts
  m_Lgoal_facts : mg "_law_goal_facts" = some (.ref T.f_Lgoal_facts)
  b_Lgoal_facts : Binds K T.d_Lgoal_facts ["_law_goals", "_law_ladder", "_law_wanted", "_law_known"] []
  F_Lread : Fun K "_law_read" "_law_read" s_Lread T.f_Lread T.d_Lread
  m_Lread : mg "_law_read" = some (.ref T.f_Lread)
  b_Lread : Binds K T.d_Lread ["_law_text_here"] []
  F_Lyes : Fun K "_law_yes" "_law_yes" s_Lyes T.f_Lyes T.d_Lyes
  m_Lyes : mg "_law_yes" = some (.ref T.f_Lyes)
  b_Lyes : Binds K T.d_Lyes ["_law_truth"] []
  F_Ltext : Fun K "_law_text" "_law_text" s_Ltext T.f_Ltext T.d_Ltext
  m_Ltext : mg "_law_text" = some (.ref T.f_Ltext)
  b_Ltext : Binds K T.d_Ltext ["_law_ladder", "_law_sides", "_law_knows", "_law_wanted"] []
  F_Lbent_top : Fun K "_law_bent_top" "_law_bent_top" s_Lbent_top T.f_Lbent_top T.d_Lbent_top
  m_Lbent_top : mg "_law_bent_top" = some (.ref T.f_Lbent_top)
  b_Lbent_top : Binds K T.d_Lbent_top ["_law_hand_here", "_law_at", "_law_line"] []
  F_Lbent_couple : Fun K "_law_bent_couple" "_law_bent_couple" s_Lbent_couple T.f_Lbent_couple T.d_Lbent_couple
  m_Lbent_couple : mg "_law_bent_couple" = some (.ref T.f_Lbent_couple)
  b_Lbent_couple : Binds K T.d_Lbent_couple ["_law_hand_here", "_law_couple", "_law_ends_here", "_law_ladder"] []
  F_Lbent_right : Fun K "_law_bent_right" "_law_bent_right" s_Lbent_right T.f_Lbent_right T.d_Lbent_right
  m_Lbent_right : mg "_law_bent_right" = some (.ref T.f_Lbent_right)
  b_Lbent_right : Binds K T.d_Lbent_right ["_law_hand_here", "_law_goal", "_law_lines"] []
  F_law : Fun K "law" "law" s_law T.f_law T.d_law
  m_law : mg "law" = some (.ref T.f_law)
  b_law : Binds K T.d_law ["_law_script"] []
  m_CallError : mg "CallError" = some (.ref T.C_CallError)
  e_CallError : Jv.ExcP K T.C_CallError
  m_BadGoals : mg "BadGoals" = some (.ref T.C_BadGoals)
  x_BadGoals : Jv.ExcI K T.C_BadGoals T.f_BadGoalsu_initu
  m_BadText : mg "BadText" = some (.ref T.C_BadText)
  x_BadText : Jv.ExcI K T.C_BadText T.f_BadTextu_initu
  m_Goals : mg "Goals" = some (.ref T.C_Goals)
  o_Goals : Cls K T.C_Goals
  k_Goals : Mk K T.C_Goals T.f_Goalsu_initu
  h_Goalsu_equ : Meth K T.C_Goals "__eq__" T.f_Goalsu_equ
  n_Goals_ladder : NoAttr K T.C_Goals "ladder"
  n_Goals_wanted : NoAttr K T.C_Goals "wanted"
  n_Goals_knows : NoAttr K T.C_Goals "knows"
  n_Goals_sides : NoAttr K T.C_Goals "sides"
  z_ValueError : mg "ValueError" = none
  z_abs : mg "abs" = none
  z_all : mg "all" = none
  z_bool : mg "bool" = none
  z_enumerate : mg "enumerate" = none
  z_int : mg "int" = none
  z_isinstance : mg "isinstance" = none
  z_len : mg "len" = none
  z_list : mg "list" = none
  z_min : mg "min" = none
  z_range : mg "range" = none
  z_set : mg "set" = none
  z_sorted : mg "sorted" = none
  z_staticmethod : mg "staticmethod" = none
  z_str : mg "str" = none
  z_tuple : mg "tuple" = none
  c_EAST : mg "EAST" = some (.int (0) T.t_EAST)
  c_WEST : mg "WEST" = some (.int (1) T.t_WEST)
  c_LADDER_MOST : mg "LADDER_MOST" = some (.int (6) T.t_LADDER_MOST)
  c_KINDS_MOST : mg "KINDS_MOST" = some (.int (6) T.t_KINDS_MOST)
  c_COUPLES_MOST : mg "COUPLES_MOST" = some (.int (12) T.t_COUPLES_MOST)
  c_FIGURES : mg "FIGURES" = some (.str "0123456789" T.t_FIGURES)
  c_FIGURES_MOST : mg "FIGURES_MOST" = some (.int (6) T.t_FIGURES_MOST)
  n_BadGoals_what : PySem.W.findIn K (.ref T.C_BadGoals) "what" = some none
  n_BadText_number : PySem.W.findIn K (.ref T.C_BadText) "number" = some none
  n_BadText_what : PySem.W.findIn K (.ref T.C_BadText) "what" = some none
  i_Goals_ca : PySem.W.findIn K (.ref T.C_Goals) "__class__" = some (some (.builtin "object.__class__"))
  i_Goals_cn : PySem.W.specialIn K (.builtin "object.__class__") "__get__" = some (some (.builtin "getset_descriptor.__get__"))
  i_Goals_ct : PySem.W.takesIn K (.builtin "object.__class__") = some true
  i_Goals_cm : PySem.W.mroIn K T.C_Goals (.type "object") = some true
  i_Goals_kt : PySem.W.kitOne K (.type "tuple") (.ref T.C_Goals) = some false
  i_Goals_nt : PySem.W.notFirst K T.C_Goals (.type "tuple") = true
  i_Goals_ne : PySem.W.findIn K (.ref T.C_Goals) "__ne__" = some (some (.builtin "object.__ne__"))
end K07

namespace K07
open PySem PySem.Spec PyProof.Rows L2
/-! ### the law's draws: any number below the bound may come -/
def sp_Lmix : Sp := fun vs H Q _ => ∃ n t : Int, vs = [.int n, .int t] ∧ (0 ≤ n ∧ n < 2147483648 ∧ 0 ≤ t ∧ t ≤ 1000) ∧ ∀ r : Int, 0 ≤ r → r < 134217728 → Q (.int r) H
theorem mix_end (z : Int) : 0 ≤ z % 2147483563 / 16 ∧ z % 2147483563 / 16 < 134217728 := by omega
section
variable {P : Program} {w : World} {K : PySem.W.Frag} {mg : Str → Option Value} {base : Heap}
theorem ok_Lmix (T : Tx) (O : Ok K mg T) : FnOk P w K mg base CX0 1 T.f_Lmix T.d_Lmix ["_law_number", "_law_turn"] sp_Lmix := by
  refine O.F_Lmix.ok sc_Lmix (fun vs H Q E h => by obtain ⟨n, t, rfl, _⟩ := h; rfl) (fun cdv A outer s H vs Q E hr h => ?_)
  obtain ⟨n, t, rfl, ⟨h1, h2, h3, h4⟩, q⟩ := h
  refine ⟨_, (pss_cons (ps_set (i := 2) sc_Lmix.nd rfl (Or.inl rfl) (pe_op op_mod (pe_callTy (r := Jv.rInt) Jv.cr_int (by rfl) O.z_int (by decide +kernel) (pa_cons (pe_op op_add (pe_op op_add (pe_op op_mul (pv 0) pe_int) (pe_op op_mul (pv 1) pe_int)) pe_int) pa_nil)) pe_int))
  (pss_cons (ps_set (i := 3) sc_Lmix.nd rfl (Or.inl rfl) (pe_op op_mod (pe_callTy (r := Jv.rInt) Jv.cr_int (by rfl) O.z_int (by decide +kernel) (pa_cons (pe_op op_add (pe_op op_add (pe_op op_mul (pv 2) (pv 2)) (pe_op op_mul (pe_op op_fdivW (pv 2) pe_int) pe_int)) (pe_op op_mul (pv 1) pe_int)) pa_nil)) pe_int))
  (pss_one (ps_ret (pe_op op_fdivW (pe_op op_mod (pe_callTy (r := Jv.rInt) Jv.cr_int (by rfl) O.z_int (by decide +kernel) (pa_cons (pe_op op_add (pe_op op_fdivW (pe_op op_mul (pv 3) (pv 3)) pe_int) (pv 2)) pa_nil)) pe_int) pe_int))))), ?_⟩
  walk_at "r"
  exact q _ (mix_end _).1 (mix_end _).2
end
end K07

namespace Jv
open PySem PySem.Spec PyProof.Rows L2
/-! ### the hand: numbers still to be used, a place, a rest, a total -/
structure HandAt (H : Hp) (p l : Addr) (ns : List Int) (k c t : Int) : Prop where
  hp : H p = some (.lst [.ref l, .int k, .int c, .int t])
  hl : H l = some (.lst (ns.map V.int))
  nn : ∀ n ∈ ns, 0 ≤ n
  few : ns.length ≤ 63
  bd : 0 ≤ k ∧ k ≤ ns.length ∧ 0 ≤ c ∧ 0 ≤ t ∧ t < 2147483629
def Hand (H : Hp) (p l : Addr) : Prop := ∃ ns k c t, HandAt H p l ns k c t
theorem HandAt.ne {H : Hp} {p l : Addr} {ns : List Int} {k c t : Int} (h : HandAt H p l ns k c t) : l ≠ p := fun e => by
  have q := h.hp
  rw [← e, h.hl] at q
  have q2 := HO.lst.inj (Option.some.inj q)
  cases ns with
  | nil => cases q2
  | cons a r => cases q2
/-- all but what stands at p is as it was -/
def Kp (p : Addr) (H H' : Hp) : Prop := ∀ b o, b ≠ p → H b = some o → H' b = some o
theorem Kp.refl {p : Addr} {H : Hp} : Kp p H H := fun _ _ _ e => e
theorem Kp.trans {p : Addr} {H H1 H2 : Hp} (a : Kp p H H1) (b : Kp p H1 H2) : Kp p H H2 := fun c o n e => b c o n (a c o n e)
theorem Kp.same {p : Addr} {H H' : Hp} (a : Same H H') : Kp p H H' := fun c o _ e => a c o e
theorem Kp.upd {p : Addr} {H : Hp} {o : HO} : Kp p H (upd H p o) := fun c u n e => by rw [upd_ne n]; exact e
theorem Kp.new {p q : Addr} {H : Hp} {o : HO} (n : H q = none) : Kp p H (L2.upd H q o) := Kp.same (same_new n)
theorem Hand.same {H H' : Hp} {p l : Addr} (h : Hand H p l) (s : Same H H') : Hand H' p l := by
  obtain ⟨ns, k, c, t, h⟩ := h
  exact ⟨ns, k, c, t, s _ _ h.hp, s _ _ h.hl, h.nn, h.few, h.bd⟩
theorem Hand.at {H : Hp} {p l : Addr} (h : Hand H p l) : ∃ o, H p = some o := by
  obtain ⟨ns, k, c, t, h⟩ := h
  exact ⟨_, h.hp⟩
theorem Hand.set {H : Hp} {p l : Addr} {ns : List Int} {k c t k' c' t' : Int} (h : HandAt H p l ns k c t) (b : 0 ≤ k' ∧ k' ≤ ns.length ∧ 0 ≤ c' ∧ 0 ≤ t' ∧ t' < 2147483629) :
    HandAt (upd H p (.lst [.ref l, .int k', .int c', .int t'])) p l ns k' c' t' :=
  ⟨upd_same, by rw [upd_ne h.ne]; exact h.hl, h.nn, h.few, b⟩
end Jv
namespace K07
open PySem PySem.Spec PyProof.Rows L2
def sp_Lhand (K : PySem.W.Frag) : Sp := fun vs H Q _ => ∃ (a : Addr) (ns : List Int), vs = [.ref a] ∧ SqL K H a (ns.map V.int) ∧ ns.length ≤ 63 ∧ ∀ p l H', Same H H' → H p = none → Jv.Hand H' p l → Q (.ref p) H'
section
variable {P : Program} {w : World} {K : PySem.W.Frag} {mg : Str → Option Value} {base : Heap}
theorem ok_Lhand (T : Tx) (O : Ok K mg T) : FnOk P w K mg base CX0 1 T.f_Lhand T.d_Lhand ["_law_script"] (sp_Lhand K) := by
  refine O.F_Lhand.ok sc_Lhand (fun vs H Q E h => by obtain ⟨a, ns, rfl, _⟩ := h; rfl) (fun cdv A outer s H vs Q E hr h => ?_)
  obtain ⟨a, ns, rfl, hS, few, q⟩ := h
  refine ⟨_, (pss_cons (ps_set (i := 1) sc_Lhand.nd rfl (Or.inl rfl) pe_int)
  (pss_cons (ps_for PassesOwn.never rfl (show PI _ _ _ (iEnum K _) from pi_enum (by rfl) O.z_enumerate (pa_cons (pv 0) pa_nil)) (pg_tup rfl (pgs_cons (pg_name (i := 2) sc_Lhand.nd rfl (Or.inl rfl)) (pgs_cons (pg_name (i := 3) sc_Lhand.nd rfl (Or.inl rfl)) pgs_nil))) (pss_one (ps_set (i := 1) sc_Lhand.nd rfl (Or.inl rfl) (pe_op op_mod (pe_callTy (r := Jv.rInt) Jv.cr_int (by rfl) O.z_int (by decide +kernel) (pa_cons (pe_op op_add (pe_op op_mul (pv 1) pe_int) (pe_op op_mul (pe_callTy (r := Jv.rInt) Jv.cr_int (by rfl) O.z_int (by decide +kernel) (pa_cons (pv 3) pa_nil)) (pe_op op_add (pv 2) pe_int))) pa_nil)) pe_int))))
  (pss_one (ps_ret (pe_lst (pa_cons (pe_lc (own := [("_law_cell", 3)]) (by rfl) sc_Lhand.nd (show PI _ _ _ (iList K _) from pi_list (pv 0)) (blkOk_by (own := [("_law_cell", 3)]) (N := ["_law_script", "_law_total", "_law_k", "_law_cell"]) (sc := defScope s_Lhand) (scope := ({ kind := .function, names := [(".0", .local), ("_law_cell", .local), ("abs", .globalImplicit), ("int", .globalImplicit)], isGenerator := false, isCoroutine := false } : Scope)) (by decide +kernel)) (fun _ _ _ _ _ => (pg_name (i := 3) sc_Lhand.nd rfl (Or.inl rfl))) (fun _ _ _ _ _ => pts_nil) (fun _ _ _ _ _ => (pe_callB (r := Jv.rAbs) Jv.cr_abs (by rfl) O.z_abs (by decide +kernel) (pa_cons (pe_callTy (r := Jv.rInt) Jv.cr_int (by rfl) O.z_int (by decide +kernel) (pa_cons (pv 3) pa_nil)) pa_nil)))) (pa_cons pe_int (pa_cons pe_int (pa_cons (pv 1) pa_nil))))))))), ?_⟩
  walk_at "r"
  refine ⟨_, _, rfl, hS, ?_⟩
  refine for_it (walk_enum (K := K) (a := a) (xs := ns.map V.int)) (fun i σ H' => ∃ y2 y3 tot, σ = [some (.ref a), some (.int tot), y2, y3] ∧ (0 ≤ tot ∧ tot < 2147483629) ∧ Same H H') ⟨_, _, 0, rfl, by decide, fun _ _ e => e⟩ (fun i σ H' _ ⟨_, _, _, _, _, sm⟩ => sm.seq hS) ?_ ?_
  · rintro i x σ H1 H2 hi ⟨y2, y3, tot, rfl, hb, sm⟩ ⟨p, x1, x2, rfl, hp, rfl, hx, hy⟩
    cases hx
    obtain ⟨z, hz, rfl⟩ := Jv.map_at (show (ns.map V.int)[i]? = some x2 from hy)
    rw [List.length_map] at hi
    walk_at "r"
    exact ⟨_, _, _, rfl, by omega, sm.trans (Jv.same_new hp)⟩
  · rintro σ H' ⟨y2, y3, tot, rfl, hb, sm⟩
    walk_at "r"
    refine ⟨_, rfl, _, rfl, ⟨_, sm.seq hS⟩, fun p hp => ?_⟩
    refine lc_it (walk_list (K := K) (a := a) (xs := ns.map V.int)) (fun i H1 => ∃ zs : List Int, Same H H1 ∧ H1 p = some (.lst (zs.map V.int)) ∧ zs.length = i ∧ ∀ z ∈ zs, 0 ≤ z) ⟨[], sm.trans (Jv.same_new hp), upd_same, rfl, by simp⟩ (fun i H1 _ ⟨_, s1, _⟩ => s1.seq hS) ?_ ?_
    · rintro i x H1 H2 hi ⟨zs, s1, e1, hl, nn⟩ ⟨rfl, hx⟩
      obtain ⟨z, hz, rfl⟩ := Jv.map_at hx
      rw [List.length_map] at hi
      walk_at "r"
      refine ⟨zs.map V.int, e1, ?_, zs ++ [if z < 0 then -z else z], ?_, ?_, ?_, ?_⟩
      · rw [List.length_map, hl]; exact Jv.small_lt (by omega)
      · intro b o e; exact Jv.kpO (s1 b o e) (ne_of_none (sm b o e) hp)
      · rw [upd_same, List.map_append]; rfl
      · rw [List.length_append, hl]; rfl
      · intro y hy
        rcases List.mem_append.mp hy with hy | hy
        · exact nn y hy
        · rw [List.mem_singleton.mp hy]; split <;> omega
    · rintro H1 ⟨zs, s1, e1, hl, nn⟩
      walk_at "r"
      intro p2 hp2
      rw [List.length_map] at hl
      exact q p2 p _ (s1.trans (Jv.same_new hp2)) (s1.free hp2) ⟨zs, 0, 0, tot, upd_same, Jv.kp e1 hp2, nn, by omega, by omega⟩
end
end K07

namespace K07
open PySem PySem.Spec PyProof.Rows L2
def sp_Ldraw : Sp := fun vs H Q _ => ∃ (p l : Addr) (m : Int), vs = [.ref p, .int m] ∧ Jv.Hand H p l ∧ (0 < m ∧ m.natAbs.log2 < 9000) ∧ ∀ r H', 0 ≤ r → r < m → Jv.Kp p H H' → Jv.Hand H' p l → Q (.int r) H'
section
variable {P : Program} {w : World} {K : PySem.W.Frag} {mg : Str → Option Value} {base : Heap}
theorem ok_Ldraw (T : Tx) (O : Ok K mg T) : FnOk P w K mg base CX0 2 T.f_Ldraw T.d_Ldraw ["_law_hand_here", "_law_many"] sp_Ldraw := by
  refine O.F_Ldraw.ok sc_Ldraw (fun vs H Q E h => by obtain ⟨_, _, _, rfl, _⟩ := h; rfl) (fun cdv A outer s H vs Q E hr h => ?_)
  obtain ⟨p, l, m, rfl, ⟨ns, k, c, t, hA⟩, ⟨m0, m1⟩, q⟩ := h
  obtain ⟨hp, hl, nn, few, b1, b2, b3, b4, b5⟩ := id hA
  have nlp := hA.ne
  have e0 : ∀ z : Int, 0 ≤ z % m := fun z => Int.emod_nonneg _ (by omega)
  have e1 : ∀ z : Int, z % m < m := fun z => Int.emod_lt_of_pos _ m0
  refine ⟨_, (C8.pss_cut (ps_if (PW.pt (pw_and (pt_cmpR op_eq (pe_ix (r := rIxL K) ix_list (pv 0) pe_int (fun _ _ => rfl)) pe_int (nomark _)) (pw_and1 (pt_cmpR op_lt (pe_ix (r := rIxL K) ix_list (pv 0) pe_int (fun _ _ => rfl)) (pe_callB (r := Jv.rLenK K) Jv.cr_len (by rfl) O.z_len (by decide +kernel) (pa_cons (pe_ix (r := rIxL K) ix_list (pv 0) pe_int (fun _ _ => rfl)) pa_nil)) (nomark _))))) (pss_cons (ps_set (i := 2) sc_Ldraw.nd rfl (Or.inl rfl) (pe_ix (r := rIxL K) ix_list (pe_ix (r := rIxL K) ix_list (pv 0) pe_int (fun _ _ => rfl)) (pe_ix (r := rIxL K) ix_list (pv 0) pe_int (fun _ _ => rfl)) (fun _ _ => rfl)))
  (pss_cons (ps_asg (pe_op op_add (pe_ix (r := rIxL K) ix_list (pv 0) pe_int (fun _ _ => rfl)) pe_int) (pg_sub (pv 0) pe_int set_list))
  (pss_cons (ps_if (pt_cmpR op_lt (pv 2) (pe_op op_pow pe_int pe_int) (nomark _)) (pss_one (ps_ret (pe_op op_mod (pe_callTy (r := Jv.rInt) Jv.cr_int (by rfl) O.z_int (by decide +kernel) (pa_cons (pe_call (ok_Lmix T O) (hr.mono (by decide)) (by rfl) O.m_Lmix O.F_Lmix.kp O.b_Lmix .nil pass0 (pa_cons (pe_op op_mod (pe_callTy (r := Jv.rInt) Jv.cr_int (by rfl) O.z_int (by decide +kernel) (pa_cons (pv 2) pa_nil)) pe_int) (pa_cons (pe_ix (r := rIxL K) ix_list (pv 0) pe_int (fun _ _ => rfl)) pa_nil))) pa_nil)) (pv 1)))) pss_nil)
  (pss_one (ps_asg (pv 2) (pg_sub (pv 0) pe_int set_list)))))) pss_nil)
  (pss_cons (ps_if (pt_cmpR op_gt (pe_ix (r := rIxL K) ix_list (pv 0) pe_int (fun _ _ => rfl)) pe_int (nomark _)) (pss_cons (ps_set (i := 3) sc_Ldraw.nd rfl (Or.inl rfl) (pe_ix (r := rIxL K) ix_list (pv 0) pe_int (fun _ _ => rfl)))
  (pss_cons (ps_asg (pe_op op_fdivW (pv 3) (pv 1)) (pg_sub (pv 0) pe_int set_list))
  (pss_one (ps_ret (pe_op op_mod (pe_callTy (r := Jv.rInt) Jv.cr_int (by rfl) O.z_int (by decide +kernel) (pa_cons (pv 3) pa_nil)) (pv 1)))))) pss_nil)
  (pss_cons (ps_asg (pe_op op_mod (pe_callTy (r := Jv.rInt) Jv.cr_int (by rfl) O.z_int (by decide +kernel) (pa_cons (pe_op op_add (pe_ix (r := rIxL K) ix_list (pv 0) pe_int (fun _ _ => rfl)) pe_int) pa_nil)) pe_int) (pg_sub (pv 0) pe_int set_list))
  (pss_one (ps_ret (pe_op op_mod (pe_callTy (r := Jv.rInt) Jv.cr_int (by rfl) O.z_int (by decide +kernel) (pa_cons (pe_call (ok_Lmix T O) (hr.mono (by decide)) (by rfl) O.m_Lmix O.F_Lmix.kp O.b_Lmix .nil pass0 (pa_cons (pe_ix (r := rIxL K) ix_list (pv 0) pe_int (fun _ _ => rfl)) (pa_cons (pe_ix (r := rIxL K) ix_list (pv 0) pe_int (fun _ _ => rfl)) pa_nil))) pa_nil)) (pv 1))))))), ?_⟩
  refine ⟨fun σ' H' => ∃ k c t y2 y3, σ' = [some (.ref p), some (.int m), y2, y3] ∧ Jv.HandAt H' p l ns k c t ∧ Jv.Kp p H H', ?_, ?_⟩
  · walk_at "r"
    refine Jv.r_decI (fun hc => ?_) (fun hc => ?_)
    · walk_at "r"
      refine Jv.r_dec (fun hk => ?_) (fun hk => ?_)
      · rw [List.length_map] at hk
        have hk2 : k.toNat < ns.length := by omega
        have at1 : atI (ns.map V.int) k = some (.int ns[k.toNat]) := Jv.at_i b1 (Jv.map_get hk2)
        have n0 := nn ns[k.toNat] (List.getElem_mem _)
        generalize ns[k.toNat] = z at at1 n0
        walk_at "r"
        refine' Jv.r_ixL ?hs at1 ?_
        case hs => walk_at "sq"
        walk_at "r"
        refine Jv.r_dec (fun hz => ?_) (fun hz => ?_)
        · walk_at "r"
          refine ⟨_, _, rfl, ⟨by omega, by omega, by omega, by omega⟩, fun r h1 h2 => ?_⟩
          walk_at "r"
          exact q _ _ (e0 _) (e1 _) Jv.Kp.upd ⟨_, _, _, _, Jv.Hand.set hA ⟨by omega, by omega, b3, b4, b5⟩⟩
        · walk_at "r"
          exact ⟨k + 1, z, t, _, _, rfl, Jv.Hand.set (Jv.Hand.set hA ⟨by omega, by omega, b3, b4, b5⟩) ⟨by omega, by omega, n0, b4, b5⟩, Jv.Kp.upd.trans Jv.Kp.upd⟩
      · walk_at "r"
        exact ⟨k, c, t, _, _, rfl, hA, Jv.Kp.refl⟩
    · walk_at "r"
      exact ⟨k, c, t, _, _, rfl, hA, Jv.Kp.refl⟩
  · rintro σ' H' ⟨k, c, t, y2, y3, rfl, hB, kp⟩
    obtain ⟨hp, hl, nn, few, b1, b2, b3, b4, b5⟩ := id hB
    walk_at "r"
    refine Jv.r_dec (fun hc => ?_) (fun hc => ?_)
    · walk_at "r"
      refine q _ _ (e0 _) (e1 _) (kp.trans Jv.Kp.upd) ⟨_, _, _, _, Jv.Hand.set hB ⟨b1, b2, Int.ediv_nonneg b3 (by omega), b4, b5⟩⟩
    · walk_at "r"
      refine ⟨_, _, rfl, ⟨by omega, by omega, b1, by omega⟩, fun r h1 h2 => ?_⟩
      walk_at "r"
      exact q _ _ (e0 _) (e1 _) (kp.trans Jv.Kp.upd) ⟨_, _, _, _, Jv.Hand.set hB ⟨b1, b2, b3, by omega, by omega⟩⟩
end
end K07

namespace K07
open PySem PySem.Spec PyProof.Rows L2
def sp_Lis : Sp := fun vs H Q _ => ∃ a b, vs = [.bl a, .bl b] ∧ Q (.bl (decide (a = b))) H
def sp_Lwide_sides : Sp := fun vs H Q _ => ∃ h l, vs = [.ref h] ∧ Jv.Hand H h l ∧ ∀ r p q H', ((1 ≤ p ∧ p ≤ 6) ∧ (1 ≤ q ∧ q ≤ 6) ∧ p * q ≤ 12) → Jv.Kp h H H' → Jv.Hand H' h l → H' r = some (.tup [.int p, .int q]) → Q (.ref r) H'
theorem m_bound {p : Int} (h0 : 0 ≤ p) (h1 : p < 6) : 0 < (if 12 / (1 + p) < 6 then 12 / (1 + p) else 6) ∧ (if 12 / (1 + p) < 6 then 12 / (1 + p) else 6) < 2 ^ 200 := by
  have : p = 0 ∨ p = 1 ∨ p = 2 ∨ p = 3 ∨ p = 4 ∨ p = 5 := by omega
  rcases this with rfl | rfl | rfl | rfl | rfl | rfl <;> decide
theorem q_bound {p q : Int} (h0 : 0 ≤ p) (h1 : p < 6) (q0 : 0 ≤ q) (h : q < if 12 / (1 + p) < 6 then 12 / (1 + p) else 6) : (1 ≤ 1 + q ∧ 1 + q ≤ 6) ∧ (1 + p) * (1 + q) ≤ 12 ∧ (1 + q) * (1 + p) ≤ 12 := by
  have : p = 0 ∨ p = 1 ∨ p = 2 ∨ p = 3 ∨ p = 4 ∨ p = 5 := by omega
  rcases this with rfl | rfl | rfl | rfl | rfl | rfl <;> simp at h <;> omega
section
variable {P : Program} {w : World} {K : PySem.W.Frag} {mg : Str → Option Value} {base : Heap}
theorem ok_Lis (T : Tx) (O : Ok K mg T) : FnOk P w K mg base CX0 1 T.f_Lis T.d_Lis ["_law_thing", "_law_due"] sp_Lis := by
  refine O.F_Lis.ok sc_Lis (fun vs H Q E h => by obtain ⟨_, _, rfl, _⟩ := h; rfl) (fun cdv A outer s H vs Q E hr h => ?_)
  obtain ⟨a, b, rfl, k⟩ := h
  refine ⟨_, (pss_one (ps_ret (pe_and (pe_callB (r := rIsi K) call_isi (by rfl) O.z_isinstance (by decide +kernel) (pa_cons (pv 0) (pa_cons (pe_bltn (v := .ty "bool") (by rfl) O.z_bool (by decide +kernel) rfl) pa_nil))) (pe_one (pe_cmpR op_eq (pv 0) (pv 1) (nomark _)))))), ?_⟩
  walk_at "r"
  have e : decide (V.bl a = V.bl b) = decide (a = b) := by cases a <;> cases b <;> rfl
  rw [e]; exact k
theorem ok_Lwide_sides (T : Tx) (O : Ok K mg T) : FnOk P w K mg base CX0 3 T.f_Lwide_sides T.d_Lwide_sides ["_law_hand_here"] sp_Lwide_sides := by
  refine O.F_Lwide_sides.ok sc_Lwide_sides (fun vs H Q E h => by obtain ⟨_, _, rfl, _⟩ := h; rfl) (fun cdv A outer s H vs Q E hr h => ?_)
  obtain ⟨h, l, rfl, hh, k⟩ := h
  refine ⟨_, (pss_cons (ps_set (i := 1) sc_Lwide_sides.nd rfl (Or.inl rfl) (pe_op op_add pe_int (pe_call (ok_Ldraw T O) (hr.mono (by decide)) (by rfl) O.m_Ldraw O.F_Ldraw.kp O.b_Ldraw .nil pass0 (pa_cons (pv 0) (pa_cons pe_int pa_nil)))))
  (pss_cons (ps_set (i := 2) sc_Lwide_sides.nd rfl (Or.inl rfl) (pe_op op_add pe_int (pe_call (ok_Ldraw T O) (hr.mono (by decide)) (by rfl) O.m_Ldraw O.F_Ldraw.kp O.b_Ldraw .nil pass0 (pa_cons (pv 0) (pa_cons (pe_callB (r := Jv.rMin2) (call_min2 rfl) (by rfl) O.z_min (by decide +kernel) (pa_cons pe_int (pa_cons (pe_op op_fdivW pe_int (pv 1)) pa_nil))) pa_nil)))))
  (pss_one (ps_ret (pe_ifExp (pt_cmpR op_eq (pe_call (ok_Ldraw T O) (hr.mono (by decide)) (by rfl) O.m_Ldraw O.F_Ldraw.kp O.b_Ldraw .nil pass0 (pa_cons (pv 0) (pa_cons pe_int pa_nil))) pe_int (nomark _)) (pe_tup (pa_cons (pv 1) (pa_cons (pv 2) pa_nil))) (pe_ifExp (pt_cmpR op_gt (pv 2) pe_int (nomark _)) (pe_tup (pa_cons (pv 2) (pa_cons (pv 1) pa_nil))) (pe_tup (pa_cons (pv 1) (pa_cons (pv 2) pa_nil))))))))), ?_⟩
  walk_at "r"
  refine ⟨h, l, _, rfl, hh, ⟨by decide, Jv.log_small (by decide) (by decide)⟩, fun p H1 p0 p1 k1 h1 => ?_⟩
  walk_at "r"
  have mb := m_bound p0 p1
  refine ⟨h, l, _, rfl, h1, ⟨mb.1, Jv.log_small mb.1 mb.2⟩, fun q H2 q0 q1 k2 h2 => ?_⟩
  have qb := q_bound p0 p1 q0 q1
  walk_at "r"
  refine ⟨h, l, _, rfl, h2, ⟨by decide, Jv.log_small (by decide) (by decide)⟩, fun r H3 r0 r1 k3 h3 => ?_⟩
  have kk := (k1.trans k2).trans k3
  walk_at "r"
  refine Jv.r_decI (fun _ => ?_) (fun _ => ?_)
  · walk_at "r"
    intro t ht
    exact k t _ _ _ ⟨by omega, qb.1, qb.2.1⟩ (kk.trans (Jv.Kp.new ht)) (h3.same (Jv.same_new ht)) upd_same
  · walk_at "rr"
    intro t ht
    exact k t _ _ _ ⟨qb.1, by omega, qb.2.2⟩ (kk.trans (Jv.Kp.new ht)) (h3.same (Jv.same_new ht)) upd_same
end
end K07

namespace K07
open PySem PySem.Spec PyProof.Rows L2
/-! ### basics, of data -/
def sp_is_whole (K : PySem.W.Frag) : Sp := fun vs H Q _ => ∃ x d lo hi, vs = [x, lo, hi] ∧ Jv.Dv K H x d ∧ Jv.Bd lo ∧ Jv.Bd hi ∧ Q (.bl (Jv.wholeV x lo hi)) H
def sp_is_sequence (K : PySem.W.Frag) : Sp := fun vs H Q _ => ∃ x d, vs = [x] ∧ Jv.Dv K H x d ∧ ∀ H', Same H H' → Q (.bl (Jv.seqD d).isSome) H'
def sp_is_truth (K : PySem.W.Frag) : Sp := fun vs H Q _ => ∃ x d, vs = [x] ∧ Jv.Dv K H x d ∧ Q (.bl (Jv.boolD d)) H
def sp_are_sides (K : PySem.W.Frag) : Sp := fun vs H Q _ => ∃ x d, vs = [x] ∧ Jv.Dv K H x d ∧ ∀ H', Same H H' → Q (.bl (Jv.sidesD d)) H'
def sp_are_ends (K : PySem.W.Frag) : Sp := fun vs H Q _ => ∃ x d l, vs = [x, .int l] ∧ Jv.Dv K H x d ∧ Jv.few1 d ∧ ∀ H', Same H H' → Q (.bl (Jv.endsD l d)) H'
def sp_is_knowing (K : PySem.W.Frag) : Sp := fun vs H Q _ => ∃ x d, vs = [x] ∧ Jv.Dv K H x d ∧ ∀ H', Same H H' → Q (.bl (Jv.knowsD d)) H'
section
variable {P : Program} {w : World} {K : PySem.W.Frag} {mg : Str → Option Value} {base : Heap}
theorem ok_is_whole (T : Tx) (O : Ok K mg T) : FnOk P w K mg base CX0 1 T.f_is_whole T.d_is_whole ["thing", "low", "high"] (sp_is_whole K) := by
  refine O.F_is_whole.ok sc_is_whole (fun vs H Q E h => by obtain ⟨_, _, _, _, rfl, _⟩ := h; rfl) (fun cdv A outer s H vs Q E hr h => ?_)
  obtain ⟨x, d, lo, hi, rfl, hx, hlo, hhi, q⟩ := h
  refine ⟨_, (pss_cons (ps_if (PW.pt (pw_or (pt_val (pe_callB (r := rIsi K) call_isi (by rfl) O.z_isinstance (by decide +kernel) (pa_cons (pv 0) (pa_cons (pe_bltn (v := .ty "bool") (by rfl) O.z_bool (by decide +kernel) rfl) pa_nil)))) (pw_or1 (pt_not (pt_val (pe_callB (r := rIsi K) call_isi (by rfl) O.z_isinstance (by decide +kernel) (pa_cons (pv 0) (pa_cons (pe_bltn (v := .ty "int") (by rfl) O.z_int (by decide +kernel) rfl) pa_nil)))))))) (pss_one (ps_ret pe_bl)) pss_nil)
  (pss_cons (ps_if (PW.pt (pw_and (pt_cmpR op_notN (pv 1) pe_non (nomark _)) (pw_and1 (pt_cmpR op_lt (pv 0) (pv 1) (nomark _))))) (pss_one (ps_ret pe_bl)) pss_nil)
  (pss_one (ps_ret (pe_or (pe_cmpR op_isN (pv 2) pe_non (nomark _)) (pe_one (pe_cmpR op_le (pv 0) (pv 2) (nomark _)))))))), ?_⟩
  walk_at "r"
  have hx2 := hx
  cases hx2 with
  | int i =>
    rcases hlo with rfl | ⟨a, rfl⟩
    · rcases hhi with rfl | ⟨b, rfl⟩ <;> walk_at "r" <;> exact q
    · by_cases h : i < a
      · rw [Jv.wholeV_lo0 h] at q
        walk_at "rr" <;> exact q
      · rw [Jv.wholeV_lo1 h] at q
        rcases hhi with rfl | ⟨b, rfl⟩ <;> walk_at "rr" <;> exact q
  | _ => walk_at "r"; exact q
theorem ok_is_sequence (T : Tx) (O : Ok K mg T) : FnOk P w K mg base CX0 1 T.f_is_sequence T.d_is_sequence ["thing"] (sp_is_sequence K) := by
  refine O.F_is_sequence.ok sc_is_sequence (fun vs H Q E h => by obtain ⟨_, _, rfl, _⟩ := h; rfl) (fun cdv A outer s H vs Q E hr h => ?_)
  obtain ⟨x, d, rfl, hx, q⟩ := h
  refine ⟨_, (pss_one (ps_ret (pe_callB (r := rIsiT K) call_isiT (by rfl) O.z_isinstance (by decide +kernel) (pa_cons (pv 0) (pa_cons (pe_tup (pa_cons (pe_bltn (v := .ty "list") (by rfl) O.z_list (by decide +kernel) rfl) (pa_cons (pe_bltn (v := .ty "tuple") (by rfl) O.z_tuple (by decide +kernel) rfl) pa_nil))) pa_nil))))), ?_⟩
  walk_at "r"
  intro p hp
  have hx2 := hx.same (Jv.same_new (u := .tup [.ty "list", .ty "tuple"]) hp)
  walk_at "r"
  exact q _ (Jv.same_new hp)
theorem ok_is_truth (T : Tx) (O : Ok K mg T) : FnOk P w K mg base CX0 1 T.f_is_truth T.d_is_truth ["thing"] (sp_is_truth K) := by
  refine O.F_is_truth.ok sc_is_truth (fun vs H Q E h => by obtain ⟨_, _, rfl, _⟩ := h; rfl) (fun cdv A outer s H vs Q E hr h => ?_)
  obtain ⟨x, d, rfl, hx, q⟩ := h
  refine ⟨_, (pss_one (ps_ret (pe_or (pe_cmpR (r := Jv.rIsT) Jv.op_isT (pv 0) pe_bl (nomark _)) (pe_one (pe_cmpR (r := Jv.rIsT) Jv.op_isT (pv 0) pe_bl (nomark _)))))), ?_⟩
  rw [← Jv.boolD_iff hx] at q
  walk_at "r"
  refine ⟨_, rfl, ?_⟩
  walk_at "r"
  by_cases e : x = .bl true
  · rw [decide_eq_true e] at q ⊢
    walk_at "r"; exact q
  · rw [decide_eq_false e] at q ⊢
    walk_at "r"
    refine ⟨_, rfl, q⟩
theorem ok_are_sides (T : Tx) (O : Ok K mg T) : FnOk P w K mg base CX0 2 T.f_are_sides T.d_are_sides ["thing"] (sp_are_sides K) := by
  refine O.F_are_sides.ok sc_are_sides (fun vs H Q E h => by obtain ⟨_, _, rfl, _⟩ := h; rfl) (fun cdv A outer s H vs Q E hr h => ?_)
  obtain ⟨x, d, rfl, hx, q⟩ := h
  refine ⟨_, (pss_cons (ps_if (PW.pt (pw_or (pt_not (pt_val (pe_call (ok_is_sequence T O) (hr.mono (by decide)) (by rfl) O.m_is_sequence O.F_is_sequence.kp O.b_is_sequence .nil pass0 (pa_cons (pv 0) pa_nil)))) (pw_or1 (pt_cmpR op_ne (pe_callB (r := Jv.rLenK K) Jv.cr_len (by rfl) O.z_len (by decide +kernel) (pa_cons (pv 0) pa_nil)) pe_int (nomark _))))) (pss_one (ps_ret pe_bl)) pss_nil)
  (pss_cons (ps_if (pt_not (pt_val (pe_callB (r := rAll K) (cr_all rfl) (by rfl) O.z_all (by decide +kernel) (pa_cons (pe_lc (own := [("kinds", 1)]) (by rfl) sc_are_sides.nd (Jv.piOr (show PI _ _ _ (iList K _) from pi_list (pv 0)) (show PI _ _ _ (iTup K _) from pi_tup (pv 0))) (blkOk_by (own := [("kinds", 1)]) (N := ["thing", "kinds"]) (sc := defScope s_are_sides) (scope := ({ kind := .function, names := [(".0", .local), ("kinds", .local), ("is_whole", .globalImplicit), ("KINDS_MOST", .globalImplicit)], isGenerator := false, isCoroutine := false } : Scope)) (by decide +kernel)) (fun _ _ _ _ _ => (pg_name (i := 1) sc_are_sides.nd rfl (Or.inl rfl))) (fun _ _ _ _ _ => pts_nil) (fun _ _ _ _ _ => (pe_call (ok_is_whole T O) (hr.mono (by decide)) (by rfl) O.m_is_whole O.F_is_whole.kp O.b_is_whole .nil pass0 (pa_cons (pv 1) (pa_cons pe_int (pa_cons (pe_glob (v := .int (6)) (by rfl) O.c_KINDS_MOST ⟨_, rfl⟩) pa_nil)))))) pa_nil)))) (pss_one (ps_ret pe_bl)) pss_nil)
  (pss_one (ps_ret (pe_cmpR op_le (pe_op op_mul (pe_ix (r := rIx K) ix_seq (pv 0) (pe_glob (v := .int (0)) (by rfl) O.c_EAST ⟨_, rfl⟩) (fun _ _ => rfl)) (pe_ix (r := rIx K) ix_seq (pv 0) (pe_glob (v := .int (1)) (by rfl) O.c_WEST ⟨_, rfl⟩) (fun _ _ => rfl))) (pe_glob (v := .int (12)) (by rfl) O.c_COUPLES_MOST ⟨_, rfl⟩) (nomark _)))))), ?_⟩
  walk_at "r"
  refine ⟨_, _, rfl, hx, fun H1 s1 => ?_⟩
  walk_at "r"
  cases e : Jv.seqD d with
  | none =>
    have e2 : Jv.sidesD d = false := by unfold Jv.sidesD; rw [e]
    rw [e2] at q
    walk_at "r"; exact q _ s1
  | some ds =>
    obtain ⟨xs, sq0, al⟩ := hx.sk e
    have sq := sq0.same s1
    have al1 := al.same s1
    walk_at "r"
    refine sq.len ?_
    walk_at "r"
    refine Jv.r_ndecI (fun hl => ?_) (fun hl => ?_)
    · have e2 : Jv.sidesD d = false := by
        unfold Jv.sidesD; rw [e]
        split
        · rename_i p q e3; cases e3; rw [al.len] at hl; exact absurd rfl hl
        · rfl
      rw [e2] at q
      walk_at "r"; exact q _ s1
    · walk_at "r"
      obtain ⟨y, z, rfl⟩ : ∃ y z, xs = [y, z] := by
        match xs, hl with
        | [y, z], _ => exact ⟨y, z, rfl⟩
        | [], h => simp at h
        | [_], h => simp at h
        | _ :: _ :: _ :: r, h => simp at h; omega
      cases al1 with
      | cons h1 al1 =>
      cases al1 with
      | cons h2 al1 =>
      cases al1
      rename_i d1 d2
      refine Jv.lcK (j := 1) (i := 0) rfl sq (fun v => .bl (Jv.wholeV v (.int 1) (.int 6))) (by simp) (fun v H2 m s2 P hP => ?_) (fun D H2 s2 hD eD => ?_)
      · walk_at "r"
        rcases List.mem_cons.mp m with rfl | m
        · exact ⟨_, _, _, _, rfl, h1.same s2, .inr ⟨_, rfl⟩, .inr ⟨_, rfl⟩, hP _ (Same.refl _)⟩
        · rw [List.mem_singleton.mp m]
          rw [List.mem_singleton.mp m] at hP
          exact ⟨_, _, _, _, rfl, h2.same s2, .inr ⟨_, rfl⟩, .inr ⟨_, rfl⟩, hP _ (Same.refl _)⟩
      · walk_at "r"
        refine Jv.r_all (f := fun v => Jv.wholeV v (.int 1) (.int 6)) eD ?_
        walk_at "r"
        have es : Jv.sidesD d = (match [d1, d2] with | [.int p, .int q] => decide ((1 ≤ p ∧ p ≤ 6) ∧ (1 ≤ q ∧ q ≤ 6) ∧ p * q ≤ 12) | _ => false) := by
          unfold Jv.sidesD; rw [e]
          exact (show ∀ a b : PyData, (match (some [a, b] : Option (List PyData)) with | some [.int p, .int q] => decide ((1 ≤ p ∧ p ≤ 6) ∧ (1 ≤ q ∧ q ≤ 6) ∧ p * q ≤ 12) | _ => false) = (match [a, b] with | [.int p, .int q] => decide ((1 ≤ p ∧ p ≤ 6) ∧ (1 ≤ q ∧ q ≤ 6) ∧ p * q ≤ 12) | _ => false) from fun a b => by cases a <;> cases b <;> rfl) d1 d2
        cases eb : [y, z].all fun v => Jv.wholeV v (.int 1) (.int 6) with
        | false =>
          have e2 : Jv.sidesD d = false := by
            rw [es]
            split
            · rename_i p q e3
              cases e3
              cases h1; cases h2
              refine decide_eq_false fun hh => ?_
              have : ([V.int p, V.int q].all fun v => Jv.wholeV v (.int 1) (.int 6)) = true := by
                simp [Jv.wholeV, Jv.loOk, Jv.hiOk]; omega
              rw [this] at eb; cases eb
            · rfl
          rw [e2] at q
          walk_at "r"; exact q _ (s1.trans s2)
        | true =>
          rw [List.all_cons, List.all_cons, Bool.and_eq_true, Bool.and_eq_true] at eb
          obtain ⟨p, rfl, p1, p2⟩ := Jv.wholeV_int eb.1
          obtain ⟨r, rfl, r1, r2⟩ := Jv.wholeV_int eb.2.1
          cases h1; cases h2
          have e2 : Jv.sidesD d = decide (p * r ≤ 12) := by
            rw [es]
            exact decide_eq_decide.mpr ⟨fun h => h.2.2, fun h => ⟨⟨p1, p2⟩, ⟨r1, r2⟩, h⟩⟩
          rw [e2] at q
          walk_at "r"
          refine (sq.same s2).ix (v := .int p) rfl ?_
          walk_at "r"
          refine (sq.same s2).ix (v := .int r) rfl ?_
          walk_at "r"
          exact q _ (s1.trans s2)
end
end K07

namespace K07
open PySem PySem.Spec PyProof.Rows L2
/-! ### ends, truths, lines -/
theorem _root_.Jv.tru_lst {K : PySem.W.Frag} {H : Hp} {a : Addr} {xs : List V} (h : H a = some (.lst xs)) : TruV K (.ref a) H (!xs.isEmpty) := .inl ⟨xs, Jv.sqL_at h, rfl⟩
theorem _root_.Jv.rep_all {n : Nat} {ns : List Nat} : (n :: ns).map (fun (k : Nat) => (k : Int)) = List.replicate (ns.length + 1) (n : Int) ↔ ns.all (fun m => decide (m = n)) = true := by
  rw [List.all_eq_true, List.map_cons, List.replicate_succ, List.cons.injEq]
  constructor
  · rintro ⟨_, h⟩ m hm
    have h2 : ((m : Nat) : Int) ∈ ns.map (fun (k : Nat) => (k : Int)) := List.mem_map.mpr ⟨m, hm, rfl⟩
    rw [h] at h2
    have := List.eq_of_mem_replicate h2
    exact decide_eq_true (by omega)
  · intro h
    refine ⟨rfl, List.eq_replicate_iff.mpr ⟨by simp, fun b hb => ?_⟩⟩
    obtain ⟨m, hm, rfl⟩ := List.mem_map.mp hb
    rw [of_decide_eq_true (h m hm)]
theorem _root_.Jv.flat_one {n : Nat} {v : V} : (List.replicate n [v]).flatten = List.replicate n v := by
  induction n with
  | zero => rfl
  | succ n ih => rw [List.replicate_succ, List.flatten_cons, ih]; rfl

def sp_sides_of_lines (K : PySem.W.Frag) : Sp := fun vs H Q _ => ∃ x d, vs = [x] ∧ Jv.Dv K H x d ∧ Jv.few2 d ∧
  (Jv.linesD d = none → ∀ H', Same H H' → Q .non H') ∧ (∀ p q, Jv.linesD d = some (p, q) → ∀ t H', Same H H' → H' t = some (.tup [.int p, .int q]) → Q (.ref t) H')
section
variable {P : Program} {w : World} {K : PySem.W.Frag} {mg : Str → Option Value} {base : Heap}
theorem ok_are_ends (T : Tx) (O : Ok K mg T) : FnOk P w K mg base CX0 2 T.f_are_ends T.d_are_ends ["thing", "ladder"] (sp_are_ends K) := by
  refine O.F_are_ends.ok sc_are_ends (fun vs H Q E h => by obtain ⟨_, _, _, rfl, _⟩ := h; rfl) (fun cdv A outer s H vs Q E hr h => ?_)
  obtain ⟨x, d, l, rfl, hx, fw, q⟩ := h
  refine ⟨_, (pss_one (ps_ret (pe_and (pe_call (ok_is_sequence T O) (hr.mono (by decide)) (by rfl) O.m_is_sequence O.F_is_sequence.kp O.b_is_sequence .nil pass0 (pa_cons (pv 0) pa_nil)) (pe_and (pe_cmpR op_gt (pe_callB (r := Jv.rLenK K) Jv.cr_len (by rfl) O.z_len (by decide +kernel) (pa_cons (pv 0) pa_nil)) pe_int (nomark _)) (pe_one (pe_callB (r := rAll K) (cr_all rfl) (by rfl) O.z_all (by decide +kernel) (pa_cons (pe_lc (own := [("end", 2)]) (by rfl) sc_are_ends.nd (Jv.piOr (show PI _ _ _ (iList K _) from pi_list (pv 0)) (show PI _ _ _ (iTup K _) from pi_tup (pv 0))) (blkOk_by (own := [("end", 2)]) (N := ["thing", "ladder", "end"]) (sc := defScope s_are_ends) (scope := ({ kind := .function, names := [(".0", .local), ("end", .local), ("is_whole", .globalImplicit), ("ladder", .free)], isGenerator := false, isCoroutine := false } : Scope)) (by decide +kernel)) (fun _ _ _ _ _ => (pg_name (i := 2) sc_are_ends.nd rfl (Or.inl rfl))) (fun _ _ _ _ _ => pts_nil) (fun _ _ _ _ _ => (pe_call (ok_is_whole T O) (hr.mono (by decide)) (by rfl) O.m_is_whole O.F_is_whole.kp O.b_is_whole .nil pass0 (pa_cons (pv 2) (pa_cons (pe_un un_neg (pv 1)) (pa_cons (pv 1) pa_nil)))))) pa_nil))))))), ?_⟩
  walk_at "r"
  refine ⟨_, _, rfl, hx, fun H1 s1 => ?_⟩
  walk_at "r"
  cases e : Jv.seqD d with
  | none =>
    have e2 : Jv.endsD l d = false := by unfold Jv.endsD; rw [e]
    rw [e2] at q
    walk_at "r"; exact q _ s1
  | some ds =>
    have fw1 := fw ds e
    obtain ⟨xs, sq0, al⟩ := hx.sk e
    have sq := sq0.same s1
    have al1 := al.same s1
    have ll := al.len
    have e2 : Jv.endsD l d = (decide (0 < ds.length) && ds.all fun e => Jv.wholeD e (.int (-l)) (.int l)) := by unfold Jv.endsD; rw [e]
    rw [e2] at q
    walk_at "r"
    refine sq.len ?_
    walk_at "r"
    refine Jv.r_dec (fun h0 => ?_) (fun h0 => ?_)
    · rw [decide_eq_true (p := 0 < ds.length) (by omega), Bool.true_and] at q
      walk_at "r"
      refine Jv.lcS2 (K := K) (N := []) (j := 2) (i := 0) rfl sq .nil (ds.map fun e => .bool (Jv.wholeD e (.int (-l)) (.int l))) (by rw [List.length_map]; omega) (by omega) (fun i v e' D H2 hi hv he s2 hN hD P hP => ?_) (fun D ys H2 s2 hD eD dv _ => ?_)
      · walk_at "r"
        obtain ⟨e0, h0e, hv2⟩ := al1.at hv
        rw [List.getElem?_map, h0e] at he
        obtain rfl := Option.some.inj he
        refine ⟨_, _, _, _, rfl, hv2.same s2, .inr ⟨_, rfl⟩, .inr ⟨_, rfl⟩, ?_⟩
        rw [hv2.whole]
        exact hP _ _ (Same.refl _) (.bl _)
      · walk_at "r"
        rw [Jv.hide_nil, show (ds.map fun e => PyData.bool (Jv.wholeD e (.int (-l)) (.int l))) = (ds.map fun e => Jv.wholeD e (.int (-l)) (.int l)).map PyData.bool by rw [List.map_map]; rfl] at dv
        rw [Jv.dv_bools dv] at eD
        refine ⟨D, _, rfl, Jv.sqL_at eD, ?_⟩
        rw [List.all_map]
        exact q _ (s1.trans s2)
    · rw [decide_eq_false (p := 0 < ds.length) (by omega), Bool.false_and] at q
      walk_at "r"
      exact q _ s1
theorem ok_is_knowing (T : Tx) (O : Ok K mg T) : FnOk P w K mg base CX0 2 T.f_is_knowing T.d_is_knowing ["thing"] (sp_is_knowing K) := by
  refine O.F_is_knowing.ok sc_is_knowing (fun vs H Q E h => by obtain ⟨_, _, rfl, _⟩ := h; rfl) (fun cdv A outer s H vs Q E hr h => ?_)
  obtain ⟨x, d, rfl, hx, q⟩ := h
  refine ⟨_, (pss_one (ps_ret (pe_and (pe_call (ok_is_sequence T O) (hr.mono (by decide)) (by rfl) O.m_is_sequence O.F_is_sequence.kp O.b_is_sequence .nil pass0 (pa_cons (pv 0) pa_nil)) (pe_and (pe_cmpR op_eq (pe_callB (r := Jv.rLenK K) Jv.cr_len (by rfl) O.z_len (by decide +kernel) (pa_cons (pv 0) pa_nil)) pe_int (nomark _)) (pe_one (pe_callB (r := rAll K) (cr_all rfl) (by rfl) O.z_all (by decide +kernel) (pa_cons (pe_lc (own := [("part", 1)]) (by rfl) sc_is_knowing.nd (Jv.piOr (show PI _ _ _ (iList K _) from pi_list (pv 0)) (show PI _ _ _ (iTup K _) from pi_tup (pv 0))) (blkOk_by (own := [("part", 1)]) (N := ["thing", "part"]) (sc := defScope s_is_knowing) (scope := ({ kind := .function, names := [(".0", .local), ("part", .local), ("is_truth", .globalImplicit)], isGenerator := false, isCoroutine := false } : Scope)) (by decide +kernel)) (fun _ _ _ _ _ => (pg_name (i := 1) sc_is_knowing.nd rfl (Or.inl rfl))) (fun _ _ _ _ _ => pts_nil) (fun _ _ _ _ _ => (pe_call (ok_is_truth T O) (hr.mono (by decide)) (by rfl) O.m_is_truth O.F_is_truth.kp O.b_is_truth .nil pass0 (pa_cons (pv 1) pa_nil)))) pa_nil))))))), ?_⟩
  walk_at "r"
  refine ⟨_, _, rfl, hx, fun H1 s1 => ?_⟩
  walk_at "r"
  cases e : Jv.seqD d with
  | none =>
    have e2 : Jv.knowsD d = false := by unfold Jv.knowsD; rw [e]
    rw [e2] at q
    walk_at "r"; exact q _ s1
  | some ds =>
    obtain ⟨xs, sq0, al⟩ := hx.sk e
    have sq := sq0.same s1
    have al1 := al.same s1
    have ll := al.len
    have e2 : Jv.knowsD d = (decide (ds.length = 2) && ds.all Jv.boolD) := by unfold Jv.knowsD; rw [e]
    rw [e2] at q
    walk_at "r"
    refine sq.len ?_
    walk_at "r"
    refine Jv.r_decI (fun h0 => ?_) (fun h0 => ?_)
    · rw [decide_eq_true (p := ds.length = 2) (by omega), Bool.true_and] at q
      walk_at "r"
      refine Jv.lcS2 (K := K) (N := []) (j := 1) (i := 0) rfl sq .nil (ds.map fun e => .bool (Jv.boolD e)) (by rw [List.length_map]; omega) (by omega) (fun i v e' D H2 hi hv he s2 hN hD P hP => ?_) (fun D ys H2 s2 hD eD dv _ => ?_)
      · walk_at "r"
        obtain ⟨e0, h0e, hv2⟩ := al1.at hv
        rw [List.getElem?_map, h0e] at he
        obtain rfl := Option.some.inj he
        exact ⟨_, _, rfl, hv2.same s2, hP _ _ (Same.refl _) (.bl _)⟩
      · walk_at "r"
        rw [Jv.hide_nil, show (ds.map fun e => PyData.bool (Jv.boolD e)) = (ds.map Jv.boolD).map PyData.bool by rw [List.map_map]; rfl] at dv
        rw [Jv.dv_bools dv] at eD
        refine ⟨D, _, rfl, Jv.sqL_at eD, ?_⟩
        rw [List.all_map]
        exact q _ (s1.trans s2)
    · rw [decide_eq_false (p := ds.length = 2) (by omega), Bool.false_and] at q
      walk_at "r"
      exact q _ s1
theorem ok_sides_of_lines (T : Tx) (O : Ok K mg T) : FnOk P w K mg base CX0 2 T.f_sides_of_lines T.d_sides_of_lines ["lines"] (sp_sides_of_lines K) := by
  refine O.F_sides_of_lines.ok sc_sides_of_lines (fun vs H Q E h => by obtain ⟨_, _, rfl, _⟩ := h; rfl) (fun cdv A outer s H vs Q E hr h => ?_)
  obtain ⟨x, d, rfl, hx, fw, q1, q2⟩ := h
  refine ⟨_, (pss_cons (ps_if (PW.pt (pw_or (pt_not (pt_val (pe_call (ok_is_sequence T O) (hr.mono (by decide)) (by rfl) O.m_is_sequence O.F_is_sequence.kp O.b_is_sequence .nil pass0 (pa_cons (pv 0) pa_nil)))) (pw_or1 (pt_not (pt_val (pe_callB (r := rAll K) (cr_all rfl) (by rfl) O.z_all (by decide +kernel) (pa_cons (pe_lc (own := [("line", 2)]) (by rfl) sc_sides_of_lines.nd (Jv.piOr (show PI _ _ _ (iList K _) from pi_list (pv 0)) (show PI _ _ _ (iTup K _) from pi_tup (pv 0))) (blkOk_by (own := [("line", 2)]) (N := ["lines", "lengths", "line"]) (sc := defScope s_sides_of_lines) (scope := ({ kind := .function, names := [(".0", .local), ("line", .local), ("is_sequence", .globalImplicit)], isGenerator := false, isCoroutine := false } : Scope)) (by decide +kernel)) (fun _ _ _ _ _ => (pg_name (i := 2) sc_sides_of_lines.nd rfl (Or.inl rfl))) (fun _ _ _ _ _ => pts_nil) (fun _ _ _ _ _ => (pe_call (ok_is_sequence T O) (hr.mono (by decide)) (by rfl) O.m_is_sequence O.F_is_sequence.kp O.b_is_sequence .nil pass0 (pa_cons (pv 2) pa_nil)))) pa_nil))))))) (pss_one (ps_ret pe_non)) pss_nil)
  (pss_cons (ps_setLc (i := 1) (own := [("line", 2)]) (by rfl) sc_sides_of_lines.nd rfl rfl (sw_true rfl rfl rfl (by decide +kernel)) (Jv.piOr (show PI _ _ _ (iList K _) from pi_list (pv 0)) (show PI _ _ _ (iTup K _) from pi_tup (pv 0))) (blkOk_by (own := [("line", 2)]) (N := ["lines", "lengths", "line"]) (sc := defScope s_sides_of_lines) (scope := ({ kind := .function, names := [(".0", .local), ("line", .local), ("len", .globalImplicit)], isGenerator := false, isCoroutine := false } : Scope)) (by decide +kernel)) (fun _ _ _ _ _ => (pg_name (i := 2) sc_sides_of_lines.nd rfl (Or.inl rfl))) (fun _ _ _ _ _ => pts_nil) (fun _ _ _ _ _ => (pe_callB (r := Jv.rLenK K) Jv.cr_len (by rfl) O.z_len (by decide +kernel) (pa_cons (pv 2) pa_nil))))
  (pss_cons (ps_if (PW.pt (pw_or (pt_not (pt_truth (pv 1) (by intro _; rfl))) (pw_or1 (pt_cmpR (r := rNeD K) (op_neD hr.units) (pv 1) (pe_op op_rep (pe_lst (pa_cons (pe_ix (r := rIxL K) ix_list (pv 1) pe_int (fun _ _ => rfl)) pa_nil)) (pe_callB (r := Jv.rLenK K) Jv.cr_len (by rfl) O.z_len (by decide +kernel) (pa_cons (pv 1) pa_nil))) (nomark _))))) (pss_one (ps_ret pe_non)) pss_nil)
  (pss_one (ps_ret (pe_tup (pa_cons (pe_callB (r := Jv.rLenK K) Jv.cr_len (by rfl) O.z_len (by decide +kernel) (pa_cons (pv 1) pa_nil)) (pa_cons (pe_ix (r := rIxL K) ix_list (pv 1) pe_int (fun _ _ => rfl)) pa_nil)))))))), ?_⟩
  walk_at "r"
  refine ⟨_, _, rfl, hx, fun H1 s1 => ?_⟩
  walk_at "r"
  cases e : Jv.seqD d with
  | none =>
    have e2 : Jv.linesD d = none := by unfold Jv.linesD; rw [e]
    walk_at "r"; exact q1 e2 _ s1
  | some ds =>
    obtain ⟨fw1, fw2⟩ := fw ds e
    obtain ⟨xs, sq0, al⟩ := hx.sk e
    have sq := sq0.same s1
    have al1 := al.same s1
    have ll := al.len
    walk_at "r"
    refine Jv.lcS2 (K := K) (N := []) (j := 2) (i := 0) rfl sq .nil (ds.map fun e => .bool (Jv.seqD e).isSome) (by rw [List.length_map]; omega) (by omega) (fun i v e' D H2 hi hv he s2 hN hD P hP => ?_) (fun D ys H2 s2 hD eD dv _ => ?_)
    · walk_at "r"
      obtain ⟨e0, h0e, hv2⟩ := al1.at hv
      rw [List.getElem?_map, h0e] at he
      obtain rfl := Option.some.inj he
      exact ⟨_, _, rfl, hv2.same s2, fun H3 s3 => hP _ _ s3 (.bl _)⟩
    · walk_at "r"
      rw [Jv.hide_nil, show (ds.map fun e => PyData.bool (Jv.seqD e).isSome) = (ds.map fun e => (Jv.seqD e).isSome).map PyData.bool by rw [List.map_map]; rfl] at dv
      rw [Jv.dv_bools dv] at eD
      refine ⟨D, _, rfl, Jv.sqL_at eD, ?_⟩
      rw [List.all_map]
      walk_at "r"
      cases ea : (ds.all fun e => (Jv.seqD e).isSome) with
      | false =>
        have ea2 : (List.all ds ((fun b => id b) ∘ fun e => (Jv.seqD e).isSome)) = false := ea
        have e2 : Jv.linesD d = none := by unfold Jv.linesD; rw [e]; dsimp only; rw [ea, if_neg Bool.false_ne_true]
        rw [show (ds.all (id ∘ fun e => (Jv.seqD e).isSome)) = false from ea]
        walk_at "r"; exact q1 e2 _ (s1.trans s2)
      | true =>
        rw [show (ds.all (id ∘ fun e => (Jv.seqD e).isSome)) = true from ea]
        walk_at "r"
        have al2 := al1.same s2
        have s12 := s1.trans s2
        refine Jv.lcS2 (K := K) (N := []) (j := 2) (i := 0) rfl (sq.same s2) .nil ((ds.map fun e => (((Jv.seqD e).getD []).length : Int)).map PyData.int) (by rw [List.length_map, List.length_map]; omega) (by omega) (fun i v e' D2 H3 hi hv he s3 hN hD2 P hP => ?_) (fun D2 ys2 H3 s3 hD2 eD2 dv2 _ => ?_)
        · walk_at "r"
          obtain ⟨e0, h0e, hv2⟩ := al2.at hv
          rw [List.map_map, List.getElem?_map, h0e] at he
          obtain rfl := Option.some.inj he
          have hs := List.all_eq_true.mp ea e0 (List.mem_of_getElem? h0e)
          obtain ⟨l0, hl0⟩ := Option.isSome_iff_exists.mp hs
          obtain ⟨ys0, sk0, al0⟩ := hv2.sk hl0
          refine (sk0.same s3).len ?_
          show P (.int ys0.length) _
          rw [al0.len]
          refine hP _ _ (Same.refl _) ?_
          show Jv.Dv K _ _ (.int (((Jv.seqD e0).getD []).length : Int))
          rw [hl0]
          exact .int _
        · walk_at "r"
          rw [Jv.hide_nil] at dv2
          rw [Jv.dv_intsV dv2] at eD2
          have e3 : Jv.linesD d = (match ds.map (fun e => ((Jv.seqD e).getD []).length) with
            | [] => none
            | n :: ns => if ns.all (fun m => decide (m = n)) = true then some (ns.length + 1, n) else none) := by unfold Jv.linesD; rw [e]; dsimp only; (rw [ea, if_pos rfl]) <;> rfl
          rw [show (ds.map fun e => (((Jv.seqD e).getD []).length : Int)) = (ds.map fun e => ((Jv.seqD e).getD []).length).map fun (n : Nat) => (n : Int) by rw [List.map_map]; rfl] at eD2
          generalize eL : ds.map (fun e => ((Jv.seqD e).getD []).length) = L at eD2 e3
          have lL : L.length ≤ 100 := by rw [← eL, List.length_map]; exact fw1
          cases L with
          | nil =>
            refine ⟨false, Jv.tru_lst eD2, ?_⟩
            walk_at "r"
            exact q1 e3 _ (s12.trans s3)
          | cons n ns =>
            refine ⟨true, Jv.tru_lst eD2, ?_⟩
            walk_at "r"
            refine Jv.r_ixL (Jv.sqL_at eD2) (v := .int n) (Jv.at_i (by decide) rfl) ?_
            walk_at "r"
            intro t ht
            walk_at "r"
            rw [List.length_map, List.length_map]
            refine ⟨t, _, [.int n], rfl, rfl, upd_same, by omega, by simp at lL ⊢; omega, Jv.small_of (by simp at lL ⊢; omega), fun p hp => ?_⟩
            have e4 : (List.replicate (((n :: ns).length : Nat) : Int).toNat [V.int n]).flatten = (List.replicate (ns.length + 1) (n : Int)).map V.int := by
              rw [Jv.flat_one, List.map_replicate]; rfl
            rw [e4]
            refine ⟨_, _, Jv.dpL (by walk_at "sq"), Jv.dpL (by walk_at "sq"), Jv.shapedL _, Jv.shapedL _, ?_⟩
            rw [Jv.eqvL]
            walk_at "r"
            have sAll := (s12.trans s3).trans ((Jv.same_new (u := .lst [.int n]) ht).trans (Jv.same_new (u := .lst ((List.replicate (ns.length + 1) (n : Int)).map V.int)) hp))
            cases ec : ns.all (fun m => decide (m = n)) with
            | false =>
              dsimp only at e3
              rw [ec, if_neg Bool.false_ne_true] at e3
              rw [decide_eq_false (fun z => by rw [Jv.rep_all.mp z] at ec; cases ec)]
              walk_at "r"
              exact q1 e3 _ sAll
            | true =>
              dsimp only at e3
              rw [ec, if_pos rfl] at e3
              rw [decide_eq_true (Jv.rep_all.mpr ec)]
              walk_at "r"
              refine Jv.r_ixL (Jv.sqL_at (xs := ((n :: ns).map fun (k : Nat) => (k : Int)).map V.int) (by walk_at "hp")) (v := .int n) (Jv.at_i (by decide) rfl) ?_
              walk_at "r"
              intro u hu
              rw [List.length_map, List.length_map]
              exact q2 _ _ e3 u _ (sAll.trans (Jv.same_new hu)) upd_same
end
end K07

namespace K07
open PySem PySem.Spec PyProof.Rows L2
/-! ### goals -/
def sp_BadX_init (C : Addr) (f : Str) : Sp := fun vs H Q _ => ∃ a v, vs = [.ref a, v] ∧ H a = some (exo a C none) ∧ ∀ d, H d = none → d ≠ a → Q .non (upd (upd H d (exd d [(f, v)])) a (exo a C (some d)))
/-- sorted, each once, of numbers from -l to l -/
def neatI (l : Int) (ns : List Int) : List Int := ((List.range (2 * l + 1).toNat).map fun (i : Nat) => (i : Int) - l).filter fun n => decide (n ∈ ns)
def lineD (l : Int) (line : List (List Int)) : PyData := .tuple (line.map fun ns => .tuple ((neatI l ns).map .int))
def wantD (l : Int) (lls : List (List (List Int))) : PyData := .tuple (lls.map (lineD l))
def GAt (K : PySem.W.Frag) (H : Hp) (C a : Addr) (l : Int) (W : PyData) (k0 k1 : Bool) (p q : Int) : Prop :=
  ∃ dx w k s, H a = some (.ins C dx [("ladder", .int l), ("wanted", w), ("knows", k), ("sides", s)]) ∧ Jv.Dv K H w W ∧ Jv.Dv K H k (.tuple [.bool k0, .bool k1]) ∧ Jv.Dv K H s (.tuple [.int p, .int q])
/-- data of lines of lists of ends -/
def EndsR (e : PyData) (ns : List Int) : Prop := Jv.seqD e = some (ns.map .int)
def LineR (r : PyData) (line : List (List Int)) : Prop := ∃ es, Jv.seqD r = some es ∧ Paired EndsR es line
def LinesR (d : PyData) (lls : List (List (List Int))) : Prop := ∃ rows, Jv.seqD d = some rows ∧ Paired LineR rows lls
def sidesOf : Option (Nat × Nat) → PyData
  | none => .none
  | some (p, q) => .tuple [.int p, .int q]
def allEnds (l : Int) (d : PyData) : Bool := (((Jv.seqD d).getD []).flatMap fun r => (Jv.seqD r).getD []).all (Jv.endsD l)
def faultG (dl dw dk : PyData) : Option Str :=
  match dl with
  | .int l => if Jv.wholeD dl (.int 0) (.int 6) = false then some "ladder" else if Jv.sidesD (sidesOf (Jv.linesD dw)) = false then some "sides" else if allEnds l dw = false then some "wanted" else if Jv.knowsD dk = false then some "knows" else none
  | _ => some "ladder"
/-- what goals may be made of -/
structure GoodG (dl dw dk : PyData) (l : Int) (lls : List (List (List Int))) (k0 k1 : Bool) (p q : Nat) : Prop where
  dl : dl = .int l
  l0 : 0 ≤ l
  l6 : l ≤ 6
  dw : LinesR dw lls
  hp : lls.length = p
  hq : ∀ line ∈ lls, line.length = q
  p0 : 1 ≤ p
  p6 : p ≤ 6
  q0 : 1 ≤ q
  q6 : q ≤ 6
  pq : p * q ≤ 12
  ends : ∀ line ∈ lls, ∀ ns ∈ line, ns ≠ [] ∧ ns.length ≤ 60 ∧ ∀ n ∈ ns, -l ≤ n ∧ n ≤ l
  dk : Jv.seqD dk = some [.bool k0, .bool k1]
theorem memL {α β : Type} {F : α → β → Prop} : ∀ {xs : List α} {ys : List β} {x : α}, Paired F xs ys → x ∈ xs → ∃ y ∈ ys, F x y
  | _, _, _, .nil, m => by cases m
  | _, _, _, .cons a b, m => by
    rcases List.mem_cons.mp m with rfl | m
    · exact ⟨_, List.mem_cons_self, a⟩
    · obtain ⟨y, h1, h2⟩ := memL b m
      exact ⟨y, List.mem_cons_of_mem _ h1, h2⟩
theorem pairAt {α β : Type} {F : α → β → Prop} : ∀ {xs : List α} {ys : List β} {i : Nat} {x : α}, Paired F xs ys → xs[i]? = some x → ∃ y, ys[i]? = some y ∧ F x y
  | _, _, _, _, .nil, e => by simp at e
  | _, _, 0, _, .cons a _, e => by
    simp at e; subst e; exact ⟨_, rfl, a⟩
  | _, _, i + 1, _, .cons _ b, e => by
    simp at e ⊢; exact pairAt b e
theorem LineR.some {r : PyData} {line : List (List Int)} (h : LineR r line) : (Jv.seqD r).isSome = true := by
  obtain ⟨es, e, _⟩ := h
  rw [e]; rfl
theorem LineR.len {r : PyData} {line : List (List Int)} (h : LineR r line) : ((Jv.seqD r).getD []).length = line.length := by
  obtain ⟨es, e, p⟩ := h
  rw [e]; exact Paired.length p
theorem lines_len : ∀ {rows : List PyData} {lls : List (List (List Int))}, Paired LineR rows lls → rows.map (fun e => ((Jv.seqD e).getD []).length) = lls.map List.length
  | _, _, .nil => rfl
  | _, _, .cons a b => by rw [List.map_cons, List.map_cons, a.len, lines_len b]
section
variable {dl dw dk : PyData} {l : Int} {lls : List (List (List Int))} {k0 k1 : Bool} {p q : Nat}
theorem GoodG.lines (g : GoodG dl dw dk l lls k0 k1 p q) : Jv.linesD dw = .some (p, q) := by
  obtain ⟨rows, e, pr⟩ := g.dw
  have hall : (rows.all fun e => (Jv.seqD e).isSome) = true := List.all_eq_true.mpr fun r hr => by
    obtain ⟨line, _, h⟩ := memL pr hr
    exact h.some
  unfold Jv.linesD
  rw [e]; dsimp only
  rw [hall, if_pos rfl, lines_len pr]
  have hp := g.hp
  have hq := g.hq
  have p0 := g.p0
  cases lls with
  | nil => exfalso; rw [← hp] at p0; exact absurd p0 (by decide)
  | cons a r =>
    rw [List.map_cons]
    show (if _ then _ else _) = _
    have h1 : a.length = q := hq a List.mem_cons_self
    have h2 : (r.map List.length).all (fun m => decide (m = a.length)) = true := List.all_eq_true.mpr fun m hm => by
      obtain ⟨b, hb, rfl⟩ := List.mem_map.mp hm
      exact decide_eq_true (by rw [h1]; exact hq b (List.mem_cons_of_mem _ hb))
    rw [h2, if_pos rfl, List.length_map, h1, ← hp]; rfl
theorem GoodG.sides (g : GoodG dl dw dk l lls k0 k1 p q) : Jv.sidesD (sidesOf (Jv.linesD dw)) = true := by
  rw [g.lines]
  show decide _ = true
  have h := g.pq
  refine decide_eq_true ⟨⟨?_, ?_⟩, ⟨?_, ?_⟩, ?_⟩
  · have := g.p0; omega
  · have := g.p6; omega
  · have := g.q0; omega
  · have := g.q6; omega
  · exact_mod_cast h
theorem GoodG.allEnds (g : GoodG dl dw dk l lls k0 k1 p q) : allEnds l dw = true := by
  obtain ⟨rows, e, pr⟩ := g.dw
  unfold K07.allEnds
  rw [e]
  refine List.all_eq_true.mpr fun x hx => ?_
  obtain ⟨r, hr, hx⟩ := List.mem_flatMap.mp hx
  obtain ⟨line, hline, es, e2, pr2⟩ := memL pr hr
  rw [e2] at hx
  obtain ⟨ns, hns, h⟩ := memL pr2 hx
  obtain ⟨h1, _, h3⟩ := g.ends line hline ns hns
  unfold Jv.endsD
  rw [show Jv.seqD x = .some (ns.map .int) from h]
  show (decide _ && _) = true
  rw [decide_eq_true (by rw [List.length_map]; exact List.length_pos_iff.mpr h1), Bool.true_and, List.all_map, List.all_eq_true]
  intro n hn
  obtain ⟨a, b⟩ := h3 n hn
  show (decide (-l ≤ n) && decide (n ≤ l)) = true
  rw [decide_eq_true a, decide_eq_true b]; rfl
theorem GoodG.knows (g : GoodG dl dw dk l lls k0 k1 p q) : Jv.knowsD dk = true := by
  unfold Jv.knowsD
  rw [g.dk]; rfl
theorem GoodG.whole (g : GoodG dl dw dk l lls k0 k1 p q) : Jv.wholeD dl (.int 0) (.int 6) = true := by
  rw [g.dl]
  show (decide (0 ≤ l) && decide (l ≤ 6)) = true
  rw [decide_eq_true g.l0, decide_eq_true g.l6]; rfl
theorem GoodG.nofault (g : GoodG dl dw dk l lls k0 k1 p q) : faultG dl dw dk = none := by
  have h1 := g.whole; have h2 := g.sides; have h3 := g.allEnds; have h4 := g.knows; have h5 := g.dl
  subst h5
  unfold faultG
  dsimp only
  rw [h1, h2, h3, h4]; rfl
end
theorem neat_eq {l : Int} {ns ms : List Int} (h : ∀ n ∈ ns, -l ≤ n ∧ n ≤ l) (hs : ms.Pairwise (· < ·)) (hm : ∀ k : Int, k ∈ ms ↔ decide (k ∈ ns) = true) : ms = neatI l ns := by
  refine Jv.sorted_ext hs ?_ fun n => ?_
  · unfold neatI
    refine List.Pairwise.filter _ ?_
    rw [List.pairwise_map]
    exact List.pairwise_lt_range.imp fun h => by omega
  · rw [hm n, decide_eq_true_iff]
    unfold neatI
    rw [List.mem_filter, decide_eq_true_iff]
    refine ⟨fun m => ⟨?_, m⟩, fun m => m.2⟩
    obtain ⟨a, b⟩ := h n m
    exact List.mem_map.mpr ⟨(n + l).toNat, by rw [List.mem_range]; omega, by omega⟩
theorem raise_same {H : Hp} {a d : Addr} {x y z u : HO} (ha : H a = none) (hd : H d = none) : Same H (upd (del (upd (upd (upd H a x) d y) a z) a) d u) := fun b o hb => by
  have na := ne_of_none hb ha
  have nd := ne_of_none hb hd
  rw [upd_ne nd, del_ne na, upd_ne na, upd_ne nd, upd_ne na]
  exact hb
def sp_Goals_init (K : PySem.W.Frag) (C CB : Addr) : Sp := fun vs H Q E => ∃ a dx xl dl xw dw xk dk, vs = [.ref a, xl, xw, xk] ∧ H a = some (.ins C dx []) ∧ Jv.Dv K H xl dl ∧ Jv.Dv K H xw dw ∧ Jv.few3 dw ∧ Jv.Dv K H xk dk ∧
  ((∃ f, faultG dl dw dk = some f ∧ ∀ d H', Same H H' → H' d = some (.xd [("what", .str f)]) → E (.ref CB) (some d) H') ∨
   (∃ l lls k0 k1 p q, GoodG dl dw dk l lls k0 k1 p q ∧ ∀ H', (∀ b o, b ≠ a → H b = some o → H' b = some o) → GAt K H' C a l (wantD l lls) k0 k1 p q → Q .non H'))
section
variable {P : Program} {w : World} {K : PySem.W.Frag} {mg : Str → Option Value} {base : Heap}
theorem ok_BadGoalsu_initu (T : Tx) (O : Ok K mg T) : FnOk P w K mg base CX0 1 T.f_BadGoalsu_initu T.d_BadGoalsu_initu ["self", "what"] (sp_BadX_init T.C_BadGoals "what") := by
  refine O.F_BadGoalsu_initu.ok sc_BadGoalsu_initu (fun vs H Q E h => by obtain ⟨_, _, rfl, _⟩ := h; rfl) (fun cdv A outer s H vs Q E hr h => ?_)
  obtain ⟨a, v, rfl, ha, q⟩ := h
  refine ⟨_, (pss_one (ps_ost (pv 0) (pv 1))), ?_⟩
  exact ⟨_, rfl, _, rfl, a, T.C_BadGoals, rfl, O.x_BadGoals.o, O.n_BadGoals_what, .inl ⟨ha, fun d hd ne => q d hd ne⟩⟩
theorem ok_Goalsu_initu (T : Tx) (O : Ok K mg T) : FnOk P w K mg base (L2.CX P w) 3 T.f_Goalsu_initu T.d_Goalsu_initu ["self", "ladder", "wanted", "knows"] (sp_Goals_init K T.C_Goals T.C_BadGoals) := by
  refine FunD.ok O.F_Goalsu_initu sc_Goalsu_initu (fun vs H Q E h => by obtain ⟨_, _, _, _, _, _, _, _, rfl, _⟩ := h; rfl) (fun cdv A outer s H vs Q E hr h => ?_)
  obtain ⟨a, dx, xl, dl, xw, dw, xk, dk, rfl, ha, hl, hw, fw, hk, q⟩ := h
  refine ⟨_, (pss_cons (ps_if (pt_not (pt_val (pe_call (ok_is_whole T O) (hr.mono (by decide)) (by rfl) O.m_is_whole O.F_is_whole.kp O.b_is_whole .nil pass0 (pa_cons (pv 1) (pa_cons pe_int (pa_cons (pe_glob (v := .int (6)) (by rfl) O.c_LADDER_MOST ⟨_, rfl⟩) pa_nil)))))) (pss_one (ps_raise rfl (takes_of rfl rfl rfl rfl) (pmk_oex O.x_BadGoals.o O.x_BadGoals.n O.x_BadGoals.y (ok_BadGoalsu_initu T O) (hr.mono (by decide)) O.b_BadGoalsu_initu .nil pass0 (by rfl) O.m_BadGoals (pa_cons pe_str pa_nil)))) pss_nil)
  (pss_cons (ps_set (i := 4) sc_Goalsu_initu.nd rfl (Or.inl rfl) (pe_call (ok_sides_of_lines T O) (hr.mono (by decide)) (by rfl) O.m_sides_of_lines O.F_sides_of_lines.kp O.b_sides_of_lines .nil pass0 (pa_cons (pv 2) pa_nil)))
  (pss_cons (ps_if (pt_not (pt_val (pe_call (ok_are_sides T O) (hr.mono (by decide)) (by rfl) O.m_are_sides O.F_are_sides.kp O.b_are_sides .nil pass0 (pa_cons (pv 4) pa_nil)))) (pss_one (ps_raise rfl (takes_of rfl rfl rfl rfl) (pmk_oex O.x_BadGoals.o O.x_BadGoals.n O.x_BadGoals.y (ok_BadGoalsu_initu T O) (hr.mono (by decide)) O.b_BadGoalsu_initu .nil pass0 (by rfl) O.m_BadGoals (pa_cons pe_str pa_nil)))) pss_nil)
  (pss_cons (ps_if (pt_not (pt_val (pe_callB (r := rAll K) (cr_all rfl) (by rfl) O.z_all (by decide +kernel) (pa_cons (pe_lc2 (own := [("line", 5), ("ends", 6)]) (vs1 := [6]) (by rfl) sc_Goalsu_initu.nd (Jv.piOr (show PI _ _ _ (iList K _) from pi_list (pv 2)) (show PI _ _ _ (iTup K _) from pi_tup (pv 2))) (blkOk_by (own := [("line", 5), ("ends", 6)]) (N := ["self", "ladder", "wanted", "knows", "sides", "line", "ends"]) (sc := defScope s_Goalsu_initu) (by decide +kernel)) (by decide) (fun _ _ _ _ _ => (pg_name (i := 5) sc_Goalsu_initu.nd rfl (Or.inl rfl))) (fun _ _ _ _ _ => pts_nil) (fun _ _ _ _ _ => (Jv.piOr (show PI _ _ _ (iList K _) from pi_list (pv 5)) (show PI _ _ _ (iTup K _) from pi_tup (pv 5)))) (fun _ _ _ _ _ => (pg_name (i := 6) sc_Goalsu_initu.nd rfl (Or.inl rfl))) (fun _ _ _ _ _ => pts_nil) (fun _ _ _ _ _ => (pe_call (ok_are_ends T O) (hr.mono (by decide)) (by rfl) O.m_are_ends O.F_are_ends.kp O.b_are_ends .nil pass0 (pa_cons (pv 6) (pa_cons (pv 1) pa_nil))))) pa_nil)))) (pss_one (ps_raise rfl (takes_of rfl rfl rfl rfl) (pmk_oex O.x_BadGoals.o O.x_BadGoals.n O.x_BadGoals.y (ok_BadGoalsu_initu T O) (hr.mono (by decide)) O.b_BadGoalsu_initu .nil pass0 (by rfl) O.m_BadGoals (pa_cons pe_str pa_nil)))) pss_nil)
  (pss_cons (ps_if (pt_not (pt_val (pe_call (ok_is_knowing T O) (hr.mono (by decide)) (by rfl) O.m_is_knowing O.F_is_knowing.kp O.b_is_knowing .nil pass0 (pa_cons (pv 3) pa_nil)))) (pss_one (ps_raise rfl (takes_of rfl rfl rfl rfl) (pmk_oex O.x_BadGoals.o O.x_BadGoals.n O.x_BadGoals.y (ok_BadGoalsu_initu T O) (hr.mono (by decide)) O.b_BadGoalsu_initu .nil pass0 (by rfl) O.m_BadGoals (pa_cons pe_str pa_nil)))) pss_nil)
  (pss_cons (ps_fld (pv 0) (pv 1) rfl)
  (pss_cons (ps_fld (pv 0) (pe_callTy (r := Jv.rTupOf K) call_tuple_of (by rfl) O.z_tuple (by decide +kernel) (pa_cons (pe_lc (own := [("line", 5)]) (by rfl) sc_Goalsu_initu.nd (Jv.piOr (show PI _ _ _ (iList K _) from pi_list (pv 2)) (show PI _ _ _ (iTup K _) from pi_tup (pv 2))) (blkOk_by (own := [("line", 5)]) (N := ["self", "ladder", "wanted", "knows", "sides", "line", "ends"]) (sc := defScope s_Goalsu_initu) (scope := ({ kind := .function, names := [(".0", .local), ("line", .local), ("tuple", .globalImplicit)], isGenerator := false, isCoroutine := false } : Scope)) (by decide +kernel)) (fun _ _ _ _ _ => (pg_name (i := 5) sc_Goalsu_initu.nd rfl (Or.inl rfl))) (fun _ _ _ _ _ => pts_nil) (fun _ _ _ _ _ => (pe_callTy (r := Jv.rTupOf K) call_tuple_of (by rfl) O.z_tuple (by decide +kernel) (pa_cons (pe_lc (own := [("ends", 6)]) (by rfl) sc_Goalsu_initu.nd (Jv.piOr (show PI _ _ _ (iList K _) from pi_list (pv 5)) (show PI _ _ _ (iTup K _) from pi_tup (pv 5))) (blkOk_by (own := [("ends", 6)]) (N := ["self", "ladder", "wanted", "knows", "sides", "line", "ends"]) (sc := ({ kind := .function, names := [(".0", .local), ("line", .local), ("tuple", .globalImplicit)], isGenerator := false, isCoroutine := false } : Scope)) (scope := ({ kind := .function, names := [(".0", .local), ("ends", .local), ("tuple", .globalImplicit), ("sorted", .globalImplicit), ("set", .globalImplicit)], isGenerator := false, isCoroutine := false } : Scope)) (by decide +kernel)) (fun _ _ _ _ _ => (pg_name (i := 6) sc_Goalsu_initu.nd rfl (Or.inl rfl))) (fun _ _ _ _ _ => pts_nil) (fun _ _ _ _ _ => (pe_callTy (r := Jv.rTupOf K) call_tuple_of (by rfl) O.z_tuple (by decide +kernel) (pa_cons (pe_callB (r := rSortedSet w) (cr_sortedSet rfl) (by rfl) O.z_sorted (by decide +kernel) (pa_cons (pe_callTy (r := Jv.rSetI K w) (Jv.cr_setI rfl) (by rfl) O.z_set (by decide +kernel) (pa_cons (pv 6) pa_nil)) pa_nil)) pa_nil)))) pa_nil)))) pa_nil)) rfl)
  (pss_cons (ps_fld (pv 0) (pe_callTy (r := Jv.rTupOf K) call_tuple_of (by rfl) O.z_tuple (by decide +kernel) (pa_cons (pv 3) pa_nil)) rfl)
  (pss_one (ps_fld (pv 0) (pv 4) rfl)))))))))), ?_⟩
  walk_at "r"
  have ea : ∀ (f : Str) (Hx : Hp), Same H Hx → faultG dl dw dk = some f → ∀ d H', Same Hx H' → H' d = some (.xd [("what", .str f)]) → E (.ref T.C_BadGoals) (some d) H' := fun f Hx sx hf d H' s' hd => by
    rcases q with ⟨f2, hf2, q⟩ | ⟨l, lls, k0, k1, p, q0, g, _⟩
    · rw [hf] at hf2; cases hf2
      exact q d H' (sx.trans s') hd
    · rw [g.nofault] at hf; cases hf
  have rz : ∀ (f : Str) (Hx : Hp) (σ : L2.St), Same H Hx → faultG dl dw dk = some f → tMkO T.C_BadGoals (sp_BadX_init T.C_BadGoals "what") [] (tCons (tC (.str f)) tNil) σ Hx (fun cls d H' => E cls d H') := fun f Hx σ sx hf =>
    ⟨Nat.le_of_ble_eq_true rfl, fun a ha => ⟨a, _, rfl, upd_same, fun d hd ne => ⟨rfl, d, _, upd_same, by rw [upd_ne ne]; exact upd_same, by rw [upd_ne ne] at hd; exact hd, by
      rw [upd_ne ne] at hd
      exact ea _ Hx sx hf d _ (raise_same ha hd) upd_same⟩⟩⟩
  refine ⟨_, _, _, _, rfl, hl, .inr ⟨_, rfl⟩, .inr ⟨_, rfl⟩, ?_⟩
  rw [hl.whole]
  walk_at "r"
  cases ew : Jv.wholeD dl (.int 0) (.int 6) with
  | false =>
    have ef : faultG dl dw dk = some ("ladder" : Str) := by
      unfold faultG
      cases dl with
      | int l => dsimp only; rw [ew, if_pos rfl]
      | _ => rfl
    walk_at "r"
    exact rz _ _ _ (Same.refl _) ef
  | true =>
  obtain ⟨l, rfl, l0, l6⟩ := Jv.wholeD_int ew
  have fG : ∀ x, faultG (.int l) dw dk = some x ↔ (if Jv.sidesD (sidesOf (Jv.linesD dw)) = false then some ("sides" : Str) else if allEnds l dw = false then some ("wanted" : Str) else if Jv.knowsD dk = false then some ("knows" : Str) else none) = some x := fun x => by
    unfold faultG
    dsimp only
    rw [ew, if_neg (by decide)]
  cases hl
  walk_at "r"
  have fw2 : Jv.few2 dw := fun ds e => ⟨(fw ds e).1, fun x hx es he => ((fw ds e).2 x hx es he).1⟩
  refine ⟨_, _, rfl, hw, fw2, fun en H1 s1 => ?_, fun p0 q0 en t H1 s1 ht => ?_⟩
  · walk_at "r"
    refine ⟨_, _, rfl, .non, fun H2 s2 => ?_⟩
    walk_at "r"
    exact rz _ _ _ (s1.trans s2) ((fG _).mpr (by rw [en]; rfl))
  · walk_at "r"
    refine ⟨_, _, rfl, .tup (Jv.sqT_at ht) (.cons (.int _) (.cons (.int _) .nil)), fun H2 s2 => ?_⟩
    have s12 := s1.trans s2
    have ht2 := s2 _ _ ht
    walk_at "r"
    have hso : sidesOf (Jv.linesD dw) = .tuple [.int p0, .int q0] := by rw [en]; rfl
    cases es : Jv.sidesD (.tuple [.int p0, .int q0]) with
    | false =>
      walk_at "r"
      exact rz _ _ _ s12 ((fG _).mpr (by rw [hso, es]; rfl))
    | true =>
    walk_at "r"
    have hrows : ∃ rows, Jv.seqD dw = some rows ∧ rows.all (fun e => (Jv.seqD e).isSome) = true := by
      unfold Jv.linesD at en
      cases er : Jv.seqD dw with
      | none => rw [er] at en; cases en
      | some rows =>
        refine ⟨rows, rfl, ?_⟩
        rw [er] at en; dsimp only at en
        cases hb : rows.all (fun e => (Jv.seqD e).isSome) with
        | true => rfl
        | false => rw [hb, if_neg Bool.false_ne_true] at en; cases en
    obtain ⟨rows, er, hall⟩ := hrows
    obtain ⟨xs, skw, alw⟩ := hw.sk er
    obtain ⟨fr1, fr2⟩ := fw rows er
    refine Jv.lc2D (K := K) (N := []) (i := 2) (a := 5) (b := 6) rfl (skw.same s12) (alw.same s12) .nil (fun e => .bool (Jv.endsD l e)) (fun e he => ?_) fr1 (fun _ => rfl) (fun _ _ => rfl) (fun _ => rfl) (fun v u d D H3 du hd3 s3 hN hD PP hP => ?_) (fun D ys H3 s3 hD eD dv => ?_)
    · obtain ⟨z, hz⟩ := Option.isSome_iff_exists.mp (List.all_eq_true.mp hall e he)
      exact ⟨z, hz, (fr2 e he z hz).1⟩
    · obtain ⟨e, he, z, hz, hd3⟩ := hd3
      walk_at "r"
      exact ⟨_, _, _, rfl, du, (fr2 e he z hz).2 d hd3, fun H4 s4 => hP _ _ s4 (.bl _)⟩
    · walk_at "r"
      rw [Jv.hide_nil] at dv
      have efl : rows.flatMap (Jv.rowG fun e => .bool (Jv.endsD l e)) = ((rows.flatMap fun r => (Jv.seqD r).getD []).map (Jv.endsD l)).map PyData.bool := by
        rw [List.map_map, List.map_flatMap]; rfl
      rw [efl] at dv
      rw [Jv.dv_bools dv] at eD
      refine ⟨D, _, rfl, Jv.sqL_at eD, ?_⟩
      have eae : ((rows.flatMap fun r => (Jv.seqD r).getD []).map (Jv.endsD l)).all id = allEnds l dw := by
        rw [List.all_map]; unfold allEnds; rw [er]; rfl
      rw [eae]
      walk_at "r"
      have s13 := s12.trans s3
      cases eE : allEnds l dw with
      | false =>
        walk_at "r"
        exact rz _ _ _ s13 ((fG _).mpr (by rw [hso, es, eE]; rfl))
      | true =>
      walk_at "r"
      refine ⟨_, _, rfl, hk.same s13, fun H4 s4 => ?_⟩
      have s14 := s13.trans s4
      walk_at "r"
      cases eK : Jv.knowsD dk with
      | false =>
        walk_at "r"
        exact rz _ _ _ s14 ((fG _).mpr (by rw [hso, es, eE, eK]; rfl))
      | true =>
      walk_at "r"
      rcases q with ⟨f, hf, _⟩ | ⟨l', lls, k0, k1, p, q', g, qk⟩
      · have := (fG _).mp hf
        rw [hso, es, eE, eK] at this
        cases this
      have el : l = l' := PyData.int.inj g.dl
      subst el
      have epq := g.lines
      rw [en] at epq
      cases epq
      have ha4 := s14 _ _ ha
      refine Jv.r_sfld ?_
      walk_at "r"
      refine ⟨a, _, dx, [], rfl, ha4, O.o_Goals, O.n_Goals_ladder, by decide, ?_⟩
      walk_at "r"
      have hw5 := (hw.same s14).ins (o := .ins T.C_Goals dx (putF "ladder" (.int l) [])) ha4
      have hk5 := (hk.same s14).ins (o := .ins T.C_Goals dx (putF "ladder" (.int l) [])) ha4
      have ht5 : upd H4 a (.ins T.C_Goals dx (putF "ladder" (.int l) [])) t = some (.tup [.int p0, .int q0]) := by
        have h4 := s4 _ _ (s3 _ _ ht2)
        exact Jv.kpO h4 fun e => by rw [e, ha4] at h4; cases h4
      have old5 : ∀ b o, b ≠ a → H b = some o → upd H4 a (.ins T.C_Goals dx (putF "ladder" (.int l) [])) b = some o := fun b o nb hb => Jv.kpO (s14 _ _ hb) nb
      have ha5 : upd H4 a (.ins T.C_Goals dx (putF "ladder" (.int l) [])) a = some (.ins T.C_Goals dx [("ladder", .int l)]) := upd_same
      generalize upd H4 a (.ins T.C_Goals dx (putF "ladder" (.int l) [])) = H5 at hw5 hk5 ht5 old5 ha5 ⊢
      obtain ⟨ws, skw5, alw5⟩ := hw5.sk er
      obtain ⟨rows', er', prw⟩ := g.dw
      rw [er] at er'
      cases er'
      refine Jv.r_sfld ?_
      walk_at "r"
      have lws := alw5.len
      have lrw := Paired.length prw
      refine Jv.lcS2 (K := K) (N := []) (j := 5) (i := 2) rfl skw5 .nil (lls.map (lineD l)) (by rw [List.length_map]; omega) (by omega) (fun i v e D1 H6 hi hv he s6 hN1 hD1 PP hP => ?_) (fun D1 ys H6 s6 hD1 eD1 dv1 _ => ?_)
      · obtain ⟨r, hr, dr⟩ := alw5.at hv
        obtain ⟨line, hline, hLR⟩ := pairAt prw hr
        rw [List.getElem?_map, hline] at he
        obtain rfl := Option.some.inj he
        obtain ⟨es', ers, prl⟩ := hLR
        obtain ⟨us, sku, alu⟩ := (dr.same s6).sk ers
        have hends := g.ends line (List.mem_of_getElem? hline)
        have hrm := List.mem_of_getElem? hr
        have fq := (fr2 r hrm es' ers).1
        have lus := alu.len
        have lpl := Paired.length prl
        walk_at "r"
        refine Jv.lcS2 (K := K) (N := [D1]) (j := 6) (i := 5) rfl sku hN1 (line.map fun ns => .tuple ((neatI l ns).map .int)) (by rw [List.length_map]; omega) (by omega) (fun i2 u e2 D2 H7 hi2 hu he2 s7 hN2 hD2 PP2 hP2 => ?_) (fun D2 ys2 H7 s7 hD2 eD2 dv2 _ => ?_)
        · obtain ⟨e0, he0, du0⟩ := alu.at hu
          obtain ⟨ns, hns, hER⟩ := pairAt prl he0
          rw [List.getElem?_map, hns] at he2
          obtain rfl := Option.some.inj he2
          obtain ⟨us2, ⟨b, eb, hb⟩, al2⟩ := (du0.same s7).sk hER
          subst eb
          rw [Jv.dv_intsV al2] at hb
          obtain ⟨_, few60, hin⟩ := hends ns (List.mem_of_getElem? hns)
          walk_at "r"
          refine ⟨b, ns, rfl, hb, by omega, fun c n hc hn => ?_⟩
          walk_at "r"
          refine ⟨c, _, n, rfl, upd_same, by omega, fun ms r hs hm _ hr => ?_⟩
          walk_at "r"
          refine ⟨r, _, rfl, .inl ⟨Jv.sqL_at upd_same, fun t2 ht2 => ?_⟩⟩
          have em := neat_eq hin hs hm
          subst em
          have sc := (Jv.same_new (u := SetO w c (fun j => decide (j ∈ ns)) n) hc).trans (Jv.same_new (u := .lst ((neatI l ns).map V.int)) hr)
          exact hP2 _ _ (sc.trans (Jv.same_new ht2)) (Jv.dv_new ht2 (hN2.same sc) (Jv.dv_ints _))
        · walk_at "r"
          refine ⟨D2, _, rfl, .inl ⟨Jv.sqL_at eD2, fun t2 ht2 => ?_⟩⟩
          exact hP _ _ (s7.trans (Jv.same_new ht2)) (Jv.dv_new ht2 (hN1.same s7) dv2)
      · walk_at "r"
        refine ⟨D1, _, rfl, .inl ⟨Jv.sqL_at eD1, fun t2 ht2 => ?_⟩⟩
        rw [Jv.hide_nil] at dv1
        have hW : Jv.Dv K (upd H6 t2 (.tup ys)) (.ref t2) (wantD l lls) := .tup (Jv.sqT_at upd_same) (dv1.same (Jv.same_new ht2))
        have s6n := s6.trans (Jv.same_new (u := .tup ys) ht2)
        have ha7 := s6n _ _ ha5
        have hk7 := hk5.same s6n
        have ht7 := s6n _ _ ht5
        have old7 : ∀ b o, b ≠ a → H b = some o → upd H6 t2 (.tup ys) b = some o := fun b o nb hb => s6n _ _ (old5 b o nb hb)
        generalize upd H6 t2 (.tup ys) = H7 at hW ha7 hk7 ht7 old7 ⊢
        walk_at "r"
        refine ⟨a, _, dx, _, rfl, ha7, O.o_Goals, O.n_Goals_wanted, Nat.le_of_ble_eq_true rfl, ?_⟩
        walk_at "r"
        have hW8 := hW.ins (o := .ins T.C_Goals dx (putF "wanted" (.ref t2) [("ladder", .int l)])) ha7
        have hk8 := hk7.ins (o := .ins T.C_Goals dx (putF "wanted" (.ref t2) [("ladder", .int l)])) ha7
        have ht8 : upd H7 a (.ins T.C_Goals dx (putF "wanted" (.ref t2) [("ladder", .int l)])) t = some (.tup [.int p0, .int q0]) := Jv.kpO ht7 fun e => by rw [e, ha7] at ht7; cases ht7
        have old8 : ∀ b o, b ≠ a → H b = some o → upd H7 a (.ins T.C_Goals dx (putF "wanted" (.ref t2) [("ladder", .int l)])) b = some o := fun b o nb hb => Jv.kpO (old7 b o nb hb) nb
        have ha8 : upd H7 a (.ins T.C_Goals dx (putF "wanted" (.ref t2) [("ladder", .int l)])) a = some (.ins T.C_Goals dx [("ladder", .int l), ("wanted", .ref t2)]) := upd_same
        generalize upd H7 a (.ins T.C_Goals dx (putF "wanted" (.ref t2) [("ladder", .int l)])) = H8 at hW8 hk8 ht8 old8 ha8 ⊢
        refine Jv.r_sfld ?_
        walk_at "r"
        obtain ⟨ks, skk, alk⟩ := hk8.sk g.dk
        refine skk.tup fun tk H9 s9 hT => ?_
        walk_at "r"
        have ha9 := s9 _ _ ha8
        refine ⟨a, _, dx, _, rfl, ha9, O.o_Goals, O.n_Goals_knows, Nat.le_of_ble_eq_true rfl, ?_⟩
        walk_at "r"
        have hK9 : Jv.Dv K H9 (.ref tk) (.tuple [.bool k0, .bool k1]) := .tup hT (alk.same s9)
        have hW9 := (hW8.same s9).ins (o := .ins T.C_Goals dx (putF "knows" (.ref tk) [("ladder", .int l), ("wanted", .ref t2)])) ha9
        have hKA := hK9.ins (o := .ins T.C_Goals dx (putF "knows" (.ref tk) [("ladder", .int l), ("wanted", .ref t2)])) ha9
        have ht9 := s9 _ _ ht8
        have htA : upd H9 a (.ins T.C_Goals dx (putF "knows" (.ref tk) [("ladder", .int l), ("wanted", .ref t2)])) t = some (.tup [.int p0, .int q0]) := Jv.kpO ht9 fun e => by rw [e, ha9] at ht9; cases ht9
        have oldA : ∀ b o, b ≠ a → H b = some o → upd H9 a (.ins T.C_Goals dx (putF "knows" (.ref tk) [("ladder", .int l), ("wanted", .ref t2)])) b = some o := fun b o nb hb => Jv.kpO (s9 _ _ (old8 b o nb hb)) nb
        have haA : upd H9 a (.ins T.C_Goals dx (putF "knows" (.ref tk) [("ladder", .int l), ("wanted", .ref t2)])) a = some (.ins T.C_Goals dx [("ladder", .int l), ("wanted", .ref t2), ("knows", .ref tk)]) := upd_same
        generalize upd H9 a (.ins T.C_Goals dx (putF "knows" (.ref tk) [("ladder", .int l), ("wanted", .ref t2)])) = HA at hW9 hKA htA oldA haA ⊢
        show sFld K (tVar 0) (tVar 4) "sides" _ _ _
        refine Jv.r_sfld ?_
        walk_at "r"
        refine ⟨a, _, dx, _, rfl, haA, O.o_Goals, O.n_Goals_sides, Nat.le_of_ble_eq_true rfl, ?_⟩
        refine qk _ (fun b o nb hb => Jv.kpO (oldA b o nb hb) nb) ⟨dx, _, _, _, upd_same, hW9.ins haA, hKA.ins haA, .tup (Jv.sqT_at (Jv.kpO htA fun e => by rw [e, haA] at htA; cases htA)) (.cons (.int _) (.cons (.int _) .nil))⟩
end
end K07

namespace K07
open PySem PySem.Spec PyProof.Rows L2
/-! ### lots, orders, couples, sides: of data -/
def few60 (d : PyData) : Prop := ∀ ds, Jv.seqD d = some ds → ds.length ≤ 60
def intsD : List PyData → Option (List Int)
  | [] => some []
  | .int i :: r => (intsD r).map (i :: ·)
  | _ :: _ => none
theorem intsD_map : ∀ ns : List Int, intsD (ns.map .int) = some ns
  | [] => rfl
  | a :: r => by simp [intsD, intsD_map r]
theorem intsD_of : ∀ {ds : List PyData} {ns : List Int}, intsD ds = some ns → ds = ns.map .int
  | [], ns, h => by cases h; rfl
  | d :: r, ns, h => by
    cases d with
    | int i =>
      cases e : intsD r with
      | none => simp [intsD, e] at h
      | some m => simp [intsD, e] at h; subst h; rw [intsD_of e]; rfl
    | _ => cases h
def kindsD (k : Int) (d : PyData) : Bool := match Jv.seqD d with
  | some ds => ds.all fun e => Jv.wholeD e (.int 0) (.int (k - 1))
  | none => false
def lotD (k : Int) (d : PyData) : Bool := match Jv.seqD d with
  | some ds => match intsD ds with
    | some ns => decide (Jv.lotP k ns)
    | none => false
  | none => false
def orderD (k : Int) (d : PyData) : Bool := match Jv.seqD d with
  | some ds => match intsD ds with
    | some ns => decide (Jv.orderP k ns)
    | none => false
  | none => false
def coupleD (p q : Int) (d : PyData) : Bool := match Jv.seqD d with
  | some [a, b] => Jv.wholeD a (.int 0) (.int (p - 1)) && Jv.wholeD b (.int 0) (.int (q - 1))
  | _ => false
theorem kinds_true {k : Int} {d : PyData} (h : kindsD k d = true) : ∃ ns, Jv.seqD d = some (ns.map .int) ∧ Jv.inK k ns := by
  unfold kindsD at h
  cases e : Jv.seqD d with
  | none => rw [e] at h; cases h
  | some ds =>
    rw [e] at h
    have key : ∀ ds : List PyData, (ds.all fun e => Jv.wholeD e (.int 0) (.int (k - 1))) = true → ∃ ns, ds = ns.map .int ∧ Jv.inK k ns := by
      intro ds
      induction ds with
      | nil => intro _; exact ⟨[], rfl, fun _ h => by cases h⟩
      | cons a r ih =>
        intro h
        rw [List.all_cons, Bool.and_eq_true] at h
        obtain ⟨i, rfl, h1, h2⟩ := Jv.wholeD_int h.1
        obtain ⟨ns, rfl, h3⟩ := ih h.2
        refine ⟨i :: ns, rfl, fun n hn => ?_⟩
        rcases List.mem_cons.mp hn with rfl | hn
        · exact ⟨h1, h2⟩
        · exact h3 n hn
    obtain ⟨ns, rfl, h3⟩ := key ds h
    exact ⟨ns, rfl, h3⟩
theorem kinds_of {k : Int} {d : PyData} {ns : List Int} (e : Jv.seqD d = some (ns.map .int)) (h : Jv.inK k ns) : kindsD k d = true := by
  unfold kindsD; rw [e]
  show ((ns.map PyData.int).all _) = true
  rw [List.all_map, List.all_eq_true]
  intro n hn
  obtain ⟨a, b⟩ := h n hn
  show (decide (0 ≤ n) && decide (n ≤ k - 1)) = true
  rw [decide_eq_true a, decide_eq_true b]; rfl
theorem lotD_of {k : Int} {d : PyData} {ns : List Int} (e : Jv.seqD d = some (ns.map .int)) : lotD k d = decide (Jv.lotP k ns) := by
  unfold lotD; rw [e]; dsimp only; rw [intsD_map]
theorem orderD_of {k : Int} {d : PyData} {ns : List Int} (e : Jv.seqD d = some (ns.map .int)) : orderD k d = decide (Jv.orderP k ns) := by
  unfold orderD; rw [e]; dsimp only; rw [intsD_map]
theorem lotD_false {k : Int} {d : PyData} (h : kindsD k d = false) : lotD k d = false := by
  cases e : Jv.seqD d with
  | none => unfold lotD; rw [e]
  | some ds =>
    cases e2 : intsD ds with
    | none => unfold lotD; rw [e]; dsimp only; rw [e2]
    | some ns =>
      obtain rfl := intsD_of e2
      rw [lotD_of e, decide_eq_false]
      rintro ⟨h1, _⟩
      rw [kinds_of e h1] at h; cases h
theorem orderD_false {k : Int} {d : PyData} (h : kindsD k d = false) : orderD k d = false := by
  cases e : Jv.seqD d with
  | none => unfold orderD; rw [e]
  | some ds =>
    cases e2 : intsD ds with
    | none => unfold orderD; rw [e]; dsimp only; rw [e2]
    | some ns =>
      obtain rfl := intsD_of e2
      rw [orderD_of e, decide_eq_false]
      rintro ⟨h1, _⟩
      rw [kinds_of e h1] at h; cases h
def sp_are_kinds (K : PySem.W.Frag) : Sp := fun vs H Q _ => ∃ x d k, vs = [x, .int k] ∧ Jv.Dv K H x d ∧ few60 d ∧ ∀ H', Same H H' → Q (.bl (kindsD k d)) H'
def sp_is_lot (K : PySem.W.Frag) : Sp := fun vs H Q _ => ∃ x d k, vs = [x, .int k] ∧ Jv.Dv K H x d ∧ few60 d ∧ ∀ H', Same H H' → Q (.bl (lotD k d)) H'
def sp_is_order (K : PySem.W.Frag) : Sp := fun vs H Q _ => ∃ x d k, vs = [x, .int k] ∧ Jv.Dv K H x d ∧ few60 d ∧ (0 ≤ k ∧ k ≤ 60) ∧ ∀ H', Same H H' → Q (.bl (orderD k d)) H'
def sp_check_lot (K : PySem.W.Frag) (C : Addr) : Sp := fun vs H Q E => ∃ x d k v, vs = [x, .int k, v] ∧ Jv.Dv K H x d ∧ few60 d ∧
  ((∃ ns, Jv.seqD d = some (ns.map .int) ∧ Jv.lotP k ns ∧ ∀ t H', Same H H' → SqT K H' t (ns.map V.int) → Q (.ref t) H') ∨ (lotD k d = false ∧ ∀ e H', Same H H' → H' e = some (.xd [("side", v)]) → E (.ref C) (some e) H'))
def sp_check_order (K : PySem.W.Frag) (C : Addr) : Sp := fun vs H Q E => ∃ x d k v, vs = [x, .int k, v] ∧ Jv.Dv K H x d ∧ few60 d ∧ (0 ≤ k ∧ k ≤ 60) ∧
  ((∃ ns, Jv.seqD d = some (ns.map .int) ∧ Jv.orderP k ns ∧ ∀ t H', Same H H' → SqT K H' t (ns.map V.int) → Q (.ref t) H') ∨ (orderD k d = false ∧ ∀ e H', Same H H' → H' e = some (.xd [("side", v)]) → E (.ref C) (some e) H'))
def sp_check_side (K : PySem.W.Frag) (C : Addr) : Sp := fun vs H Q E => ∃ x d, vs = [x] ∧ Jv.Dv K H x d ∧ (Jv.wholeD d (.int 0) (.int 1) = true → Q x H) ∧ (Jv.wholeD d (.int 0) (.int 1) = false → E (.ref C) none H)
def sp_check_couple (K : PySem.W.Frag) (C : Addr) : Sp := fun vs H Q E => ∃ sd p q x d, vs = [sd, x] ∧ Jv.Sk K H sd [.int p, .int q] ∧ Jv.Dv K H x d ∧
  ((∃ e f, Jv.seqD d = some [.int e, .int f] ∧ (0 ≤ e ∧ e < p) ∧ (0 ≤ f ∧ f < q) ∧ ∀ t H', Same H H' → SqT K H' t [.int e, .int f] → Q (.ref t) H') ∨ (coupleD p q d = false ∧ ∀ H', Same H H' → E (.ref C) none H'))
def sp_raised_end : Sp := fun vs H Q _ => ∃ e b : Int, vs = [.int e, .int b] ∧ Q (.int (if e < 0 then e - b else e + b)) H
section
variable {P : Program} {w : World} {K : PySem.W.Frag} {mg : Str → Option Value} {base : Heap}
end
end K07

namespace K07
open PySem PySem.Spec PyProof.Rows L2
/-! ### couples -/
section
variable {P : Program} {w : World} {K : PySem.W.Frag} {mg : Str → Option Value} {base : Heap}
end
end K07

namespace K07
open PySem PySem.Spec PyProof.Rows L2
/-! ### goals made of goals: what they are -/
def lineT (line : List (List Int)) : PyData := .tuple (line.map fun ns => .tuple (ns.map .int))
def wantT (L : List (List (List Int))) : PyData := .tuple (L.map lineT)
theorem want_eq {l : Int} {lls : List (List (List Int))} : wantD l lls = wantT (lls.map fun line => line.map (neatI l)) := by
  unfold wantD wantT
  rw [List.map_map]
  congr 1
  refine List.map_congr_left fun line _ => ?_
  show lineD l line = lineT (line.map (neatI l))
  unfold lineD lineT
  rw [List.map_map]; rfl
theorem mem_neat {l n : Int} {ns : List Int} : n ∈ neatI l ns ↔ (-l ≤ n ∧ n ≤ l) ∧ n ∈ ns := by
  unfold neatI
  rw [List.mem_filter, decide_eq_true_iff, List.mem_map]
  refine and_congr_left fun _ => ⟨?_, fun h => ⟨(n + l).toNat, by rw [List.mem_range]; omega, by omega⟩⟩
  rintro ⟨i, hi, rfl⟩
  rw [List.mem_range] at hi
  omega
theorem neat_sorted {l : Int} {ns : List Int} : (neatI l ns).Pairwise (· < ·) := by
  unfold neatI
  refine List.Pairwise.filter _ ?_
  rw [List.pairwise_map]
  exact List.pairwise_lt_range.imp fun h => by omega
theorem neat_len {l : Int} {ns : List Int} (h : l ≤ 7) : (neatI l ns).length ≤ 15 := by
  unfold neatI
  refine Nat.le_trans (List.length_filter_le _ _) ?_
  rw [List.length_map, List.length_range]; omega
theorem neat_of {l : Int} {ns : List Int} (h : ∀ n ∈ ns, -l ≤ n ∧ n ≤ l) (hs : ns.Pairwise (· < ·)) : neatI l ns = ns :=
  Jv.sorted_ext neat_sorted hs fun n => by rw [mem_neat]; exact ⟨fun m => m.2, fun m => ⟨h n m, m⟩⟩
/-- neat lines of a shape -/
structure Wd (l : Int) (L : List (List (List Int))) (p q : Nat) : Prop where
  l0 : 0 ≤ l
  l6 : l ≤ 6
  hp : L.length = p
  hq : ∀ line ∈ L, line.length = q
  p0 : 1 ≤ p
  p6 : p ≤ 6
  q0 : 1 ≤ q
  q6 : q ≤ 6
  pq : p * q ≤ 12
  ends : ∀ line ∈ L, ∀ ns ∈ line, ns ≠ [] ∧ neatI l ns = ns
theorem Wd.range {l : Int} {L : List (List (List Int))} {p q : Nat} (w : Wd l L p q) {line : List (List Int)} {ns : List Int} (h1 : line ∈ L) (h2 : ns ∈ line) : ns.length ≤ 60 ∧ ∀ n ∈ ns, -l ≤ n ∧ n ≤ l := by
  obtain ⟨_, e⟩ := w.ends line h1 ns h2
  refine ⟨?_, fun n hn => ?_⟩
  · rw [← e]; have := neat_len (l := l) (ns := ns) (by have := w.l6; omega); omega
  · rw [← e] at hn; exact (mem_neat.mp hn).1
theorem Wd.same {l : Int} {L : List (List (List Int))} {p q : Nat} (w : Wd l L p q) : (L.map fun line => line.map (neatI l)) = L := by
  have : ∀ line ∈ L, line.map (neatI l) = line := fun line h => by
    have : ∀ ns ∈ line, neatI l ns = ns := fun ns h2 => (w.ends line h ns h2).2
    rw [List.map_congr_left (g := id) this, List.map_id]
  rw [List.map_congr_left (g := id) this, List.map_id]
/-- the lines as lists or tuples -/
theorem pair_map {α β : Type} {f : β → α} {F : α → β → Prop} : ∀ {ys : List β}, (∀ y ∈ ys, F (f y) y) → Paired F (ys.map f) ys
  | [], _ => .nil
  | a :: r, h => .cons (h a List.mem_cons_self) (pair_map fun y m => h y (List.mem_cons_of_mem _ m))
theorem linesT {L : List (List (List Int))} : LinesR (wantT L) L := ⟨_, rfl, pair_map fun line _ => ⟨_, rfl, pair_map fun ns _ => rfl⟩⟩
def lineL (line : List (List Int)) : PyData := .list (line.map fun ns => .tuple (ns.map .int))
def wantL (L : List (List (List Int))) : PyData := .list (L.map lineL)
theorem linesL {L : List (List (List Int))} : LinesR (wantL L) L := ⟨_, rfl, pair_map fun line _ => ⟨_, rfl, pair_map fun ns _ => rfl⟩⟩
def wantLT (L : List (List (List Int))) : PyData := .list (L.map lineT)
theorem linesLT {L : List (List (List Int))} : LinesR (wantLT L) L := ⟨_, rfl, pair_map fun line _ => ⟨_, rfl, pair_map fun ns _ => rfl⟩⟩
def wantLL (L : List (List (List Int))) : PyData := .list (L.map fun line => .list (line.map fun ns => .list (ns.map .int)))
theorem linesLL {L : List (List (List Int))} : LinesR (wantLL L) L := ⟨_, rfl, pair_map fun line _ => ⟨_, rfl, pair_map fun ns _ => rfl⟩⟩
theorem Wd.good {l : Int} {L : List (List (List Int))} {p q : Nat} {dw dk : PyData} {k0 k1 : Bool} (w : Wd l L p q) (h : LinesR dw L) (hk : Jv.seqD dk = some [.bool k0, .bool k1]) : GoodG (.int l) dw dk l L k0 k1 p q :=
  ⟨rfl, w.l0, w.l6, h, w.hp, w.hq, w.p0, w.p6, w.q0, w.q6, w.pq, fun line h1 ns h2 => ⟨(w.ends line h1 ns h2).1, w.range h1 h2⟩, hk⟩
theorem few_lines {dw : PyData} {lls : List (List (List Int))} (h : LinesR dw lls) (h1 : lls.length ≤ 100) (h2 : ∀ line ∈ lls, line.length ≤ 100) (h3 : ∀ line ∈ lls, ∀ ns ∈ line, ns.length ≤ 100) : Jv.few3 dw := by
  obtain ⟨rows, e, pr⟩ := h
  intro ds e1
  rw [e] at e1; cases e1
  refine ⟨by rw [Paired.length pr]; exact h1, fun r hr => ?_⟩
  obtain ⟨line, hl, es, e2, pr2⟩ := memL pr hr
  intro ds e3
  rw [e2] at e3; cases e3
  refine ⟨by rw [Paired.length pr2]; exact h2 line hl, fun x hx => ?_⟩
  obtain ⟨ns, hn, e4⟩ := memL pr2 hx
  intro ds e5
  rw [show Jv.seqD x = some (ns.map .int) from e4] at e5; cases e5
  rw [List.length_map]; exact h3 line hl ns hn
theorem GoodG.few {dl dw dk : PyData} {l : Int} {lls : List (List (List Int))} {k0 k1 : Bool} {p q : Nat} (g : GoodG dl dw dk l lls k0 k1 p q) : Jv.few3 dw :=
  few_lines g.dw (by rw [g.hp]; have := g.p6; omega) (fun line h => by rw [g.hq line h]; have := g.q6; omega) fun line h ns h2 => by have := (g.ends line h ns h2).2.1; omega
section
variable {K : PySem.W.Frag} {H H' H1 : Hp} {C CB a : Addr} {l : Int} {W : PyData} {k0 k1 : Bool} {p q : Int}
theorem GAt.same (h : GAt K H C a l W k0 k1 p q) (s : Same H H') : GAt K H' C a l W k0 k1 p q := by
  obtain ⟨dx, w, k, t, h1, h2, h3, h4⟩ := h
  exact ⟨dx, w, k, t, s _ _ h1, h2.same s, h3.same s, h4.same s⟩
theorem make_same {x dx : Addr} {o u : HO} (hx : H x = none) (hd : H dx = none) (ne : dx ≠ x) : Same H (upd (upd H dx o) x u) :=
  (Jv.same_new hd).trans (Jv.same_new (by rw [upd_ne ne.symm]; exact hx))
theorem mk_good {Q : VK} {E : XK} {xl xw xk : V} {dl dw dk : PyData} {lls : List (List (List Int))} {p q : Nat} (hl : Jv.Dv K H1 xl dl) (hw : Jv.Dv K H1 xw dw) (hk : Jv.Dv K H1 xk dk) (g : GoodG dl dw dk l lls k0 k1 p q)
    (k : ∀ r H', Same H1 H' → H1 r = none → GAt K H' C r l (wantD l lls) k0 k1 p q → Q (.ref r) H') :
    ∀ x dx, H1 x = none → H1 dx = none → dx ≠ x → sp_Goals_init K C CB [.ref x, xl, xw, xk] (upd (upd H1 dx (.own x)) x (.ins C dx [])) (fun v H2 => v = .non ∧ Q (.ref x) H2) E := fun x dx hx hd ne => by
  have s := make_same (o := .own x) (u := .ins C dx []) hx hd ne
  refine ⟨x, dx, xl, dl, xw, dw, xk, dk, rfl, upd_same, hl.same s, hw.same s, g.few, hk.same s, .inr ⟨l, lls, k0, k1, p, q, g, fun H' old ga => ⟨rfl, k x H' (fun b o hb => ?_) hx ga⟩⟩⟩
  exact old b o (ne_of_none hb hx) (s b o hb)
theorem mk_bad {Q : VK} {E : XK} {xl xw xk : V} {dl dw dk : PyData} {f : Str} (hl : Jv.Dv K H1 xl dl) (hw : Jv.Dv K H1 xw dw) (fw : Jv.few3 dw) (hk : Jv.Dv K H1 xk dk) (hf : faultG dl dw dk = some f)
    (k : ∀ d H', Same H1 H' → H' d = some (.xd [("what", .str f)]) → E (.ref CB) (some d) H') :
    ∀ x dx, H1 x = none → H1 dx = none → dx ≠ x → sp_Goals_init K C CB [.ref x, xl, xw, xk] (upd (upd H1 dx (.own x)) x (.ins C dx [])) (fun v H2 => v = .non ∧ Q (.ref x) H2) E := fun x dx hx hd ne => by
  have s := make_same (o := .own x) (u := .ins C dx []) hx hd ne
  exact ⟨x, dx, xl, dl, xw, dw, xk, dk, rfl, upd_same, hl.same s, hw.same s, fw, hk.same s, .inl ⟨f, hf, fun d H' s' hd' => k d H' (s.trans s') hd'⟩⟩
end
end K07

namespace Jv
open PySem PySem.Spec PyProof.Rows L2
/-! ### the hand beside data -/
section
variable {K : PySem.W.Frag} {H H' H1 : Hp} {p l b : Addr} {o : HO}
theorem Hand.ne2 (h : Hand H p l) (n : H b = none) : b ≠ p ∧ b ≠ l := by
  obtain ⟨ns, k, c, t, hA⟩ := h
  exact ⟨fun e => (by rw [e, hA.hp] at n; cases n), fun e => (by rw [e, hA.hl] at n; cases n)⟩
theorem Hand.upd (h : Hand H p l) (n1 : b ≠ p) (n2 : b ≠ l) : Hand (L2.upd H b o) p l := by
  obtain ⟨ns, k, c, t, hA⟩ := h
  exact ⟨ns, k, c, t, by rw [upd_ne n1.symm]; exact hA.hp, by rw [upd_ne n2.symm]; exact hA.hl, hA.nn, hA.few, hA.bd⟩
theorem Kp.free (k : Kp p H H') (h : Hand H' p l) (n : H' b = none) : H b = none := by
  cases e : H b with
  | none => rfl
  | some o =>
    obtain ⟨u, hu⟩ := h.at
    by_cases nb : b = p
    · rw [nb, hu] at n; cases n
    · rw [k b o nb e] at n; cases n
theorem Kp.hide (k : Kp p H H') : Same (Jv.hide [p] H) (Jv.hide [p] H') := fun b o e => by
  obtain ⟨n, e2⟩ := hide_some e
  exact hide_at n (k b o (fun h => n (by rw [h]; exact List.mem_singleton.mpr rfl)) e2)
theorem hide_one {p b : Addr} {o : HO} (n : b ≠ p) (h : H b = some o) : Jv.hide [p] H b = some o := hide_at (fun m => n (List.mem_singleton.mp m)) h
end
end Jv
namespace K07
open PySem PySem.Spec PyProof.Rows L2
/-! ### the law's own things -/
def sp_Lwhole (K : PySem.W.Frag) : Sp := fun vs H Q _ => ∃ x d, vs = [x] ∧ Jv.Dv K H x d ∧ Q (.bl (Jv.intD d)) H
def sp_Lends : Sp := fun vs H Q _ => ∃ h l lad, vs = [.ref h, .int lad] ∧ Jv.Hand H h l ∧ (0 ≤ lad ∧ lad ≤ 6) ∧ ∀ (r : Addr) (ns : List Int) (H' : Hp), ns ≠ [] → ns.length ≤ 4 → (∀ n ∈ ns, -lad ≤ n ∧ n ≤ lad) → H r = none → H' r = some (.lst (ns.map V.int)) → Jv.Kp h H H' → Jv.Hand H' h l → Q (.ref r) H'
def sp_Lneat (K : PySem.W.Frag) : Sp := fun vs H Q _ => ∃ x ns lad, vs = [x, .int lad] ∧ Jv.Sk K H x (ns.map V.int) ∧ (0 ≤ lad ∧ lad ≤ 6) ∧ ns.length ≤ 60 ∧ ∀ t H', Same H H' → H t = none → H' t = some (.tup ((neatI lad ns).map V.int)) → Q (.ref t) H'
def sp_Ltruths : Sp := fun vs H Q _ => ∃ h l, vs = [.ref h] ∧ Jv.Hand H h l ∧ ∀ (r : Addr) (k0 k1 : Bool) (H' : Hp), H r = none → H' r = some (.tup [.bl k0, .bl k1]) → Jv.Kp h H H' → Jv.Hand H' h l → Q (.ref r) H'
theorem inV_ints {z : Int} : ∀ {ns : List Int}, inV (.int z) (ns.map V.int) = decide (z ∈ ns)
  | [] => by simp [inV]
  | a :: r => by
    have ih := inV_ints (z := z) (ns := r)
    unfold inV at ih ⊢
    rw [List.map_cons, List.any_cons, ih]
    by_cases h : a = z
    · subst h; simp [eqV]
    · have h2 : ¬ z = a := fun e => h e.symm
      simp [eqV, h, h2]
theorem flat_ints (ns : List Int) : (ns.map V.int).all flatV = true := by
  rw [List.all_map, List.all_eq_true]; intro n _; rfl
section
variable {P : Program} {w : World} {K : PySem.W.Frag} {mg : Str → Option Value} {base : Heap}
theorem ok_Lwhole (T : Tx) (O : Ok K mg T) : FnOk P w K mg base CX0 1 T.f_Lwhole T.d_Lwhole ["_law_thing"] (sp_Lwhole K) := by
  refine O.F_Lwhole.ok sc_Lwhole (fun vs H Q E h => by obtain ⟨_, _, rfl, _⟩ := h; rfl) (fun cdv A outer s H vs Q E hr h => ?_)
  obtain ⟨x, d, rfl, hx, q⟩ := h
  refine ⟨_, (pss_one (ps_ret (pe_and (pe_callB (r := rIsi K) call_isi (by rfl) O.z_isinstance (by decide +kernel) (pa_cons (pv 0) (pa_cons (pe_bltn (v := .ty "int") (by rfl) O.z_int (by decide +kernel) rfl) pa_nil))) (pe_one (pe_not (pe_callB (r := rIsi K) call_isi (by rfl) O.z_isinstance (by decide +kernel) (pa_cons (pv 0) (pa_cons (pe_bltn (v := .ty "bool") (by rfl) O.z_bool (by decide +kernel) rfl) pa_nil)))))))), ?_⟩
  walk_at "r"
  cases hx <;> walk_at "r" <;> exact q
theorem ok_Lends (T : Tx) (O : Ok K mg T) : FnOk P w K mg base CX0 3 T.f_Lends T.d_Lends ["_law_hand_here", "_law_ladder"] sp_Lends := by
  refine O.F_Lends.ok sc_Lends (fun vs H Q E h => by obtain ⟨_, _, _, rfl, _⟩ := h; rfl) (fun cdv A outer s H vs Q E hr h => ?_)
  obtain ⟨h, l, lad, rfl, hh, ⟨l0, l1⟩, k⟩ := h
  refine ⟨_, (pss_cons (ps_set (i := 2) sc_Lends.nd rfl (Or.inl rfl) (pe_lst (pa_cons (pe_op op_sub (pe_call (ok_Ldraw T O) (hr.mono (by decide)) (by rfl) O.m_Ldraw O.F_Ldraw.kp O.b_Ldraw .nil pass0 (pa_cons (pv 0) (pa_cons (pe_op op_add (pe_op op_mul pe_int (pv 1)) pe_int) pa_nil))) (pv 1)) pa_nil)))
  (pss_cons (ps_for PassesOwn.never rfl (pi_range1 (by rfl) O.z_range (pa_cons (pe_call (ok_Ldraw T O) (hr.mono (by decide)) (by rfl) O.m_Ldraw O.F_Ldraw.kp O.b_Ldraw .nil pass0 (pa_cons (pv 0) (pa_cons pe_int pa_nil))) pa_nil)) (pg_name (i := 3) sc_Lends.nd rfl (Or.inl rfl)) (pss_one (ps_expr (show PE _ _ (tBM K _ _ _ _) from pe_bm PySem.F.plainAttrs_list PySem.F.slot_list_append PySem.F.type_list_append mt_append (pv 2) (pa_cons (pe_op op_sub (pe_call (ok_Ldraw T O) (hr.mono (by decide)) (by rfl) O.m_Ldraw O.F_Ldraw.kp O.b_Ldraw .nil pass0 (pa_cons (pv 0) (pa_cons (pe_op op_add (pe_op op_mul pe_int (pv 1)) pe_int) pa_nil))) (pv 1)) pa_nil)))))
  (pss_one (ps_ret (pv 2))))), ?_⟩
  walk_at "r"
  refine ⟨h, l, _, rfl, hh, ⟨by omega, Jv.log_small (by omega) (by omega)⟩, fun z H1 z0 z1 k1 h1 => ?_⟩
  walk_at "r"
  intro b hb
  have hbH := k1.free h1 hb
  obtain ⟨nbh, nbl⟩ := hh.ne2 hbH
  walk_at "r"
  refine ⟨h, l, _, rfl, h1.upd nbh nbl, ⟨by decide, Jv.log_small (by decide) (by decide)⟩, fun m H2 m0 m1 k2 h2 => ?_⟩
  walk_at "r"
  refine ⟨m, rfl, by omega, by omega, ?_⟩
  have kb : Jv.Kp h H H2 := (k1.trans (Jv.Kp.new hb)).trans k2
  have eb := k2 b _ nbh upd_same
  refine for_range (lo := 0) (n := m.toNat) (fun i σ H3 => ∃ y3 ns, σ = [some (.ref h), some (.int lad), some (.ref b), y3] ∧ Jv.Kp h H H3 ∧ Jv.Hand H3 h l ∧ H3 b = some (.lst (ns.map V.int)) ∧ ns ≠ [] ∧ ns.length = i + 1 ∧ ∀ n ∈ ns, -lad ≤ n ∧ n ≤ lad) ⟨_, [z - lad], rfl, kb, h2, eb, by simp, rfl, fun n hn => by rw [List.mem_singleton.mp hn]; omega⟩ ?_ ?_
  · rintro i σ H3 hi ⟨y3, ns, rfl, k3, h3, e3, n0, ln, nb⟩
    walk_at "r"
    refine ⟨h, l, _, rfl, h3, ⟨by omega, Jv.log_small (by omega) (by omega)⟩, fun y H4 y0 y1 k4 h4 => ?_⟩
    walk_at "r"
    have e4 := k4 b _ nbh e3
    refine Jv.r_app e4 (by rw [List.length_map]; omega) ?_
    refine ⟨_, ns ++ [y - lad], rfl, fun c o nc hc => ?_, h4.upd nbh nbl, by rw [upd_same, List.map_append]; rfl, by simp, by rw [List.length_append, ln]; rfl, fun n hn => ?_⟩
    · rw [upd_ne (ne_of_none hc hbH)]; exact k4 c o nc (k3 c o nc hc)
    · rcases List.mem_append.mp hn with hn | hn
      · exact nb n hn
      · rw [List.mem_singleton.mp hn]; omega
  · rintro σ H3 ⟨y3, ns, rfl, k3, h3, e3, n0, ln, nb⟩
    walk_at "r"
    exact k b ns H3 n0 (by omega) nb hbH e3 k3 h3
theorem ok_Lneat (T : Tx) (O : Ok K mg T) : FnOk P w K mg base CX0 1 T.f_Lneat T.d_Lneat ["_law_ends_here", "_law_ladder"] (sp_Lneat K) := by
  refine O.F_Lneat.ok sc_Lneat (fun vs H Q E h => by obtain ⟨_, _, _, rfl, _⟩ := h; rfl) (fun cdv A outer s H vs Q E hr h => ?_)
  obtain ⟨x, ns, lad, rfl, hx, ⟨l0, l1⟩, few, k⟩ := h
  refine ⟨_, (pss_one (ps_ret (pe_callTy (r := Jv.rTupOf K) call_tuple_of (by rfl) O.z_tuple (by decide +kernel) (pa_cons (pe_lc (own := [("_law_end", 2)]) (by rfl) sc_Lneat.nd (pi_range2 (by rfl) O.z_range (pa_cons (pe_un un_neg (pv 1)) (pa_cons (pe_op op_add (pv 1) pe_int) pa_nil))) (blkOk_by (own := [("_law_end", 2)]) (N := ["_law_ends_here", "_law_ladder", "_law_end"]) (sc := defScope s_Lneat) (scope := ({ kind := .function, names := [(".0", .local), ("_law_end", .local), ("_law_ends_here", .free)], isGenerator := false, isCoroutine := false } : Scope)) (by decide +kernel)) (fun _ _ _ _ _ => (pg_name (i := 2) sc_Lneat.nd rfl (Or.inl rfl))) (fun _ _ _ _ _ => (pts_one (pt_cmpR (r := rIn K false) op_in_seq (pv 2) (pv 0) rfl))) (fun _ _ _ _ _ => (pv 2))) pa_nil)))), ?_⟩
  walk_at "r"
  refine Jv.r_lc ?_
  walk_at "r"
  refine ⟨-lad, lad + 1, rfl, ⟨by omega, by omega, by omega, by omega⟩, ?_⟩
  intro D hD
  have en : (lad + 1 - -lad).toNat = (2 * lad + 1).toNat := by congr 1; omega
  refine lc_it (walk_range (lo := -lad) (n := (lad + 1 - -lad).toNat)) (fun i H1 => Same H H1 ∧ H1 D = some (.lst ((((List.range i).map fun (i : Nat) => (i : Int) - lad).filter fun n => decide (n ∈ ns)).map V.int))) ⟨Jv.same_new hD, upd_same⟩ (fun _ _ _ _ => trivial) ?_ ?_
  · rintro i v H1 H2 hi ⟨s1, e1⟩ ⟨rfl, rfl⟩
    walk_at "r"
    obtain ⟨a, rfl, ha⟩ := hx.same s1
    refine ⟨a, ns.map V.int, rfl, ha, rfl, flat_ints ns, ?_⟩
    rw [if_neg Bool.false_ne_true, inV_ints]
    have ez : -lad + (i : Int) = (i : Int) - lad := by omega
    rw [ez]
    have more : (((List.range (i + 1)).map fun (i : Nat) => (i : Int) - lad).filter fun n => decide (n ∈ ns)) = (((List.range i).map fun (i : Nat) => (i : Int) - lad).filter fun n => decide (n ∈ ns)) ++ if decide (((i : Int) - lad) ∈ ns) = true then [(i : Int) - lad] else [] := by
      rw [List.range_succ, List.map_append, List.filter_append]
      congr 1
      by_cases c : ((i : Int) - lad) ∈ ns <;> simp [c]
    cases c : decide (((i : Int) - lad) ∈ ns) with
    | true =>
      rw [c, if_pos rfl] at more
      walk_at "r"
      refine ⟨_, e1, ?_, fun b o e => Jv.kpO (s1 b o e) (ne_of_none e hD), ?_⟩
      · rw [List.length_map]
        refine Jv.small_lt (Nat.lt_of_le_of_lt (List.length_filter_le _ _) ?_)
        rw [List.length_map, List.length_range]; omega
      · rw [upd_same, more, List.map_append]
        show some (HO.lst (_ ++ [V.int (-lad + (i : Int))])) = some (HO.lst (_ ++ [V.int ((i : Int) - lad)]))
        rw [ez]
    | false =>
      rw [c, if_neg Bool.false_ne_true, List.append_nil] at more
      walk_at "r"
      refine ⟨s1, ?_⟩
      rw [more]; exact e1
  · rintro H1 ⟨s1, e1⟩
    rw [en] at e1
    walk_at "r"
    refine ⟨D, _, rfl, .inl ⟨Jv.sqL_at e1, fun t ht => ?_⟩⟩
    exact k t _ (s1.trans (Jv.same_new ht)) (s1.free ht) upd_same
theorem ok_Ltruths (T : Tx) (O : Ok K mg T) : FnOk P w K mg base CX0 3 T.f_Ltruths T.d_Ltruths ["_law_hand_here"] sp_Ltruths := by
  refine O.F_Ltruths.ok sc_Ltruths (fun vs H Q E h => by obtain ⟨_, _, rfl, _⟩ := h; rfl) (fun cdv A outer s H vs Q E hr h => ?_)
  obtain ⟨h, l, rfl, hh, k⟩ := h
  refine ⟨_, (pss_one (ps_ret (pe_tup (pa_cons (pe_cmpR op_eq (pe_call (ok_Ldraw T O) (hr.mono (by decide)) (by rfl) O.m_Ldraw O.F_Ldraw.kp O.b_Ldraw .nil pass0 (pa_cons (pv 0) (pa_cons pe_int pa_nil))) pe_int (nomark _)) (pa_cons (pe_cmpR op_eq (pe_call (ok_Ldraw T O) (hr.mono (by decide)) (by rfl) O.m_Ldraw O.F_Ldraw.kp O.b_Ldraw .nil pass0 (pa_cons (pv 0) (pa_cons pe_int pa_nil))) pe_int (nomark _)) pa_nil))))), ?_⟩
  walk_at "r"
  refine ⟨h, l, _, rfl, hh, ⟨by decide, Jv.log_small (by decide) (by decide)⟩, fun x H1 x0 x1 k1 h1 => ?_⟩
  walk_at "r"
  refine ⟨h, l, _, rfl, h1, ⟨by decide, Jv.log_small (by decide) (by decide)⟩, fun y H2 y0 y1 k2 h2 => ?_⟩
  walk_at "r"
  intro t ht
  have kk := k1.trans k2
  exact k t _ _ _ (kk.free h2 ht) upd_same (kk.trans (Jv.Kp.new ht)) (h2.same (Jv.same_new ht))
end
end K07

namespace K07
open PySem PySem.Spec PyProof.Rows L2
/-! ### wanted ends, drawn and neat -/
/-- lists of lists of ends, of a shape -/
structure Rw (l : Int) (L : List (List (List Int))) (p q : Nat) : Prop where
  hp : L.length = p
  hq : ∀ line ∈ L, line.length = q
  ends : ∀ line ∈ L, ∀ ns ∈ line, ns ≠ [] ∧ ns.length ≤ 60 ∧ ∀ n ∈ ns, -l ≤ n ∧ n ≤ l
def neatL (l : Int) (L : List (List (List Int))) : List (List (List Int)) := L.map fun line => line.map (neatI l)
theorem Rw.neat {l : Int} {L : List (List (List Int))} {p q : Nat} (r : Rw l L p q) (l0 : 0 ≤ l) (l6 : l ≤ 6) (hp : 1 ≤ p ∧ p ≤ 6) (hq : 1 ≤ q ∧ q ≤ 6) (pq : p * q ≤ 12) : Wd l (neatL l L) p q := by
  refine ⟨l0, l6, by unfold neatL; rw [List.length_map, r.hp], fun line hm => ?_, hp.1, hp.2, hq.1, hq.2, pq, fun line hm ns hn => ?_⟩
  · obtain ⟨l1, h1, rfl⟩ := List.mem_map.mp hm
    rw [List.length_map, r.hq l1 h1]
  · obtain ⟨l1, h1, rfl⟩ := List.mem_map.mp hm
    obtain ⟨m, h2, rfl⟩ := List.mem_map.mp hn
    obtain ⟨a1, _, a3⟩ := r.ends l1 h1 m h2
    refine ⟨fun e => ?_, neat_of (fun n hn => (mem_neat.mp hn).1) neat_sorted⟩
    obtain ⟨x, hx⟩ := List.exists_mem_of_ne_nil m a1
    have : x ∈ neatI l m := mem_neat.mpr ⟨a3 x hx, hx⟩
    rw [e] at this; cases this
theorem _root_.Jv.hide_mem {N : List Addr} {H : Hp} {D : Addr} {o : HO} (m : D ∈ N) : Jv.hide N (upd H D o) = Jv.hide N H := by
  funext b
  unfold Jv.hide
  by_cases mb : b ∈ N
  · rw [if_pos mb, if_pos mb]
  · rw [if_neg mb, if_neg mb]
    exact upd_ne fun e => mb (by rw [e]; exact m)
theorem _root_.Jv.hide_kp {N M : List Addr} {H H' : Hp} {p : Addr} (hp : p ∈ N) (hs : ∀ c ∈ M, c ∈ N) (k : Jv.Kp p H H') : Same (Jv.hide N H) (Jv.hide M H') := fun b o e => by
  obtain ⟨n, e2⟩ := Jv.hide_some e
  exact Jv.hide_at (fun m => n (hs b m)) (k b o (fun h => n (by rw [h]; exact hp)) e2)
theorem pair_snoc {α β : Type} {F : α → β → Prop} {x : α} {y : β} : ∀ {xs : List α} {ys : List β}, Paired F xs ys → F x y → Paired F (xs ++ [x]) (ys ++ [y])
  | _, _, .nil, h => .cons h .nil
  | _, _, .cons a b, h => .cons a (pair_snoc b h)
def RawIn (K : PySem.W.Frag) (h l sa a b : Addr) (lad : Int) (i : Nat) (H1 : Hp) (j : Nat) (σ : L2.St) (H2 : Hp) : Prop := ∃ y6 y7 us es line, σ = [some (.ref h), some (.ref sa), some (.int lad), some (.ref a), some (.int (0 + (i : Int))), some (.ref b), y6, y7] ∧
  Jv.Kp h H1 H2 ∧ Jv.Hand H2 h l ∧ H2 b = some (.lst us) ∧ Jv.DvAll K (Jv.hide [h, a, b] H2) us es ∧ Paired EndsR es line ∧ line.length = j ∧ ∀ ns ∈ line, ns ≠ [] ∧ ns.length ≤ 60 ∧ ∀ n ∈ ns, -lad ≤ n ∧ n ≤ lad
def RawOut (K : PySem.W.Frag) (h l sa a : Addr) (lad : Int) (q : Nat) (H : Hp) (i : Nat) (σ : L2.St) (H1 : Hp) : Prop := ∃ y4 y5 y6 y7 xs ds L, σ = [some (.ref h), some (.ref sa), some (.int lad), some (.ref a), y4, y5, y6, y7] ∧
  Jv.Kp h H H1 ∧ Jv.Hand H1 h l ∧ H1 a = some (.lst xs) ∧ Jv.DvAll K (Jv.hide [h, a] H1) xs ds ∧ Paired LineR ds L ∧ Rw lad L i q
def sp_Lneat_wanted (K : PySem.W.Frag) : Sp := fun vs H Q _ => ∃ x d L l, ∃ p q : Nat, vs = [x, .int l] ∧ Jv.Dv K H x d ∧ LinesR d L ∧ Rw l L p q ∧ (0 ≤ l ∧ l ≤ 6) ∧ (p ≤ 60 ∧ q ≤ 60) ∧ ∀ t H', Same H H' → Jv.Dv K H' (.ref t) (wantT (neatL l L)) → Q (.ref t) H'
def sp_Lraw_wanted (K : PySem.W.Frag) : Sp := fun vs H Q _ => ∃ h l s lad, ∃ p q : Nat, vs = [.ref h, .ref s, .int lad] ∧ Jv.Hand H h l ∧ H s = some (.tup [.int p, .int q]) ∧ (0 ≤ lad ∧ lad ≤ 6) ∧ (p ≤ 6 ∧ q ≤ 6) ∧
  ∀ r d L H', Jv.Dv K (Jv.hide [h] H') r d → LinesR d L → Rw lad L p q → Jv.Kp h H H' → Jv.Hand H' h l → Q r H'
section
variable {P : Program} {w : World} {K : PySem.W.Frag} {mg : Str → Option Value} {base : Heap}
theorem ok_Lneat_wanted (T : Tx) (O : Ok K mg T) : FnOk P w K mg base CX0 2 T.f_Lneat_wanted T.d_Lneat_wanted ["_law_lines", "_law_ladder"] (sp_Lneat_wanted K) := by
  refine O.F_Lneat_wanted.ok sc_Lneat_wanted (fun vs H Q E h => by obtain ⟨_, _, _, _, _, _, rfl, _⟩ := h; rfl) (fun cdv A outer s H vs Q E hr h => ?_)
  obtain ⟨x, d, L, l, p, q, rfl, hx, hL, hR, ⟨l0, l6⟩, ⟨hp, hq⟩, k⟩ := h
  refine ⟨_, (pss_one (ps_ret (pe_callTy (r := Jv.rTupOf K) call_tuple_of (by rfl) O.z_tuple (by decide +kernel) (pa_cons (pe_lc (own := [("_law_line", 2)]) (by rfl) sc_Lneat_wanted.nd (Jv.piOr (show PI _ _ _ (iList K _) from pi_list (pv 0)) (show PI _ _ _ (iTup K _) from pi_tup (pv 0))) (blkOk_by (own := [("_law_line", 2)]) (N := ["_law_lines", "_law_ladder", "_law_line", "_law_ends_here"]) (sc := defScope s_Lneat_wanted) (scope := ({ kind := .function, names := [(".0", .local), ("_law_line", .local), ("tuple", .globalImplicit), ("_law_ladder", .free)], isGenerator := false, isCoroutine := false } : Scope)) (by decide +kernel)) (fun _ _ _ _ _ => (pg_name (i := 2) sc_Lneat_wanted.nd rfl (Or.inl rfl))) (fun _ _ _ _ _ => pts_nil) (fun _ _ _ _ _ => (pe_callTy (r := Jv.rTupOf K) call_tuple_of (by rfl) O.z_tuple (by decide +kernel) (pa_cons (pe_lc (own := [("_law_ends_here", 3)]) (by rfl) sc_Lneat_wanted.nd (Jv.piOr (show PI _ _ _ (iList K _) from pi_list (pv 2)) (show PI _ _ _ (iTup K _) from pi_tup (pv 2))) (blkOk_by (own := [("_law_ends_here", 3)]) (N := ["_law_lines", "_law_ladder", "_law_line", "_law_ends_here"]) (sc := ({ kind := .function, names := [(".0", .local), ("_law_line", .local), ("tuple", .globalImplicit), ("_law_ladder", .cell)], isGenerator := false, isCoroutine := false } : Scope)) (scope := ({ kind := .function, names := [(".0", .local), ("_law_ends_here", .local), ("_law_neat", .globalImplicit), ("_law_ladder", .free)], isGenerator := false, isCoroutine := false } : Scope)) (by decide +kernel)) (fun _ _ _ _ _ => (pg_name (i := 3) sc_Lneat_wanted.nd rfl (Or.inl rfl))) (fun _ _ _ _ _ => pts_nil) (fun _ _ _ _ _ => (pe_call (ok_Lneat T O) (hr.mono (by decide)) (by rfl) O.m_Lneat O.F_Lneat.kp O.b_Lneat .nil pass0 (pa_cons (pv 3) (pa_cons (pv 1) pa_nil))))) pa_nil)))) pa_nil)))), ?_⟩
  walk_at "r"
  obtain ⟨rows, e, pr⟩ := hL
  obtain ⟨ws, skW, alW⟩ := hx.sk e
  have lws := alW.len
  have lpr := Paired.length pr
  have hLp := hR.hp
  refine Jv.lcS2 (K := K) (N := []) (j := 2) (i := 0) rfl skW .nil ((neatL l L).map lineT) (by rw [List.length_map]; unfold neatL; rw [List.length_map]; omega) (by omega) (fun i v e1 D1 H6 hi hv he s6 hN1 hD1 PP hP => ?_) (fun D1 ys H6 s6 hD1 eD1 dv1 _ => ?_)
  · obtain ⟨r, hr, dr⟩ := alW.at hv
    obtain ⟨line, hline, hLR⟩ := pairAt pr hr
    have ee : e1 = lineT (line.map (neatI l)) := by
      unfold neatL at he
      rw [List.map_map, List.getElem?_map, hline] at he
      exact (Option.some.inj he).symm
    subst ee
    obtain ⟨es', ers, prl⟩ := hLR
    obtain ⟨us, sku, alu⟩ := (dr.same s6).sk ers
    have lus := alu.len
    have lpl := Paired.length prl
    have hlm := List.mem_of_getElem? hline
    have hlq := hR.hq line hlm
    walk_at "r"
    refine Jv.lcS2 (K := K) (N := [D1]) (j := 3) (i := 2) rfl sku hN1 ((line.map (neatI l)).map fun ns => .tuple (ns.map .int)) (by rw [List.length_map, List.length_map]; omega) (by omega) (fun i2 u e2 D2 H7 hi2 hu he2 s7 hN2 hD2 PP2 hP2 => ?_) (fun D2 ys2 H7 s7 hD2 eD2 dv2 _ => ?_)
    · obtain ⟨e0, he0, du0⟩ := alu.at hu
      obtain ⟨ns, hns, hER⟩ := pairAt prl he0
      have ee2 : e2 = .tuple ((neatI l ns).map .int) := by
        rw [List.map_map, List.getElem?_map, hns] at he2
        exact (Option.some.inj he2).symm
      subst ee2
      obtain ⟨us2, sk2, al2⟩ := (du0.same s7).sk hER
      obtain rfl := Jv.dv_intsV al2
      obtain ⟨_, few60, _⟩ := hR.ends line hlm ns (List.mem_of_getElem? hns)
      walk_at "r"
      refine ⟨_, ns, l, rfl, sk2, ⟨l0, l6⟩, few60, fun t H8 s8 n8 ht => hP2 _ _ s8 (.tup (Jv.sqT_at (Jv.hide_at (hN2.new n8) ht)) (Jv.dv_ints _))⟩
    · walk_at "r"
      refine ⟨D2, _, rfl, .inl ⟨Jv.sqL_at eD2, fun t2 ht2 => ?_⟩⟩
      exact hP _ _ (s7.trans (Jv.same_new ht2)) (Jv.dv_new ht2 (hN1.same s7) dv2)
  · walk_at "r"
    refine ⟨D1, _, rfl, .inl ⟨Jv.sqL_at eD1, fun t2 ht2 => ?_⟩⟩
    rw [Jv.hide_nil] at dv1
    exact k t2 _ (s6.trans (Jv.same_new ht2)) (.tup (Jv.sqT_at upd_same) (dv1.same (Jv.same_new ht2)))
theorem ok_Lraw_wanted (T : Tx) (O : Ok K mg T) : FnOk P w K mg base CX0 4 T.f_Lraw_wanted T.d_Lraw_wanted ["_law_hand_here", "_law_sides", "_law_ladder"] (sp_Lraw_wanted K) := by
  refine O.F_Lraw_wanted.ok sc_Lraw_wanted (fun vs H Q E h => by obtain ⟨_, _, _, _, _, _, rfl, _⟩ := h; rfl) (fun cdv A outer s H vs Q E hr h => ?_)
  obtain ⟨h, l, sa, lad, p, q, rfl, hh, hsa, ⟨l0, l6⟩, ⟨hp, hq⟩, k⟩ := h
  refine ⟨_, (pss_cons (ps_set (i := 3) sc_Lraw_wanted.nd rfl (Or.inl rfl) (pe_lst pa_nil))
  (pss_cons (ps_for PassesOwn.never rfl (pi_range1 (by rfl) O.z_range (pa_cons (pe_ix (r := rIx K) ix_seq (pv 1) pe_int (fun _ _ => rfl)) pa_nil)) (pg_name (i := 4) sc_Lraw_wanted.nd rfl (Or.inl rfl)) (pss_cons (ps_set (i := 5) sc_Lraw_wanted.nd rfl (Or.inl rfl) (pe_lst pa_nil))
  (pss_cons (ps_for PassesOwn.never rfl (pi_range1 (by rfl) O.z_range (pa_cons (pe_ix (r := rIx K) ix_seq (pv 1) pe_int (fun _ _ => rfl)) pa_nil)) (pg_name (i := 6) sc_Lraw_wanted.nd rfl (Or.inl rfl)) (pss_cons (ps_set (i := 7) sc_Lraw_wanted.nd rfl (Or.inl rfl) (pe_call (ok_Lends T O) (hr.mono (by decide)) (by rfl) O.m_Lends O.F_Lends.kp O.b_Lends .nil pass0 (pa_cons (pv 0) (pa_cons (pv 2) pa_nil))))
  (pss_one (ps_expr (show PE _ _ (tBM K _ _ _ _) from pe_bm PySem.F.plainAttrs_list PySem.F.slot_list_append PySem.F.type_list_append mt_append (pv 5) (pa_cons (pe_ifExp (pt_cmpR op_eq (pe_call (ok_Ldraw T O) (hr.mono (by decide)) (by rfl) O.m_Ldraw O.F_Ldraw.kp O.b_Ldraw .nil pass0 (pa_cons (pv 0) (pa_cons pe_int pa_nil))) pe_int (nomark _)) (pe_callTy (r := Jv.rTupOf K) call_tuple_of (by rfl) O.z_tuple (by decide +kernel) (pa_cons (pv 7) pa_nil)) (pv 7)) pa_nil))))))
  (pss_one (ps_expr (show PE _ _ (tBM K _ _ _ _) from pe_bm PySem.F.plainAttrs_list PySem.F.slot_list_append PySem.F.type_list_append mt_append (pv 3) (pa_cons (pe_ifExp (pt_cmpR op_eq (pe_call (ok_Ldraw T O) (hr.mono (by decide)) (by rfl) O.m_Ldraw O.F_Ldraw.kp O.b_Ldraw .nil pass0 (pa_cons (pv 0) (pa_cons pe_int pa_nil))) pe_int (nomark _)) (pe_callTy (r := Jv.rTupOf K) call_tuple_of (by rfl) O.z_tuple (by decide +kernel) (pa_cons (pv 5) pa_nil)) (pv 5)) pa_nil)))))))
  (pss_one (ps_ret (pe_ifExp (pt_cmpR op_eq (pe_call (ok_Ldraw T O) (hr.mono (by decide)) (by rfl) O.m_Ldraw O.F_Ldraw.kp O.b_Ldraw .nil pass0 (pa_cons (pv 0) (pa_cons pe_int pa_nil))) pe_int (nomark _)) (pe_callTy (r := Jv.rTupOf K) call_tuple_of (by rfl) O.z_tuple (by decide +kernel) (pa_cons (pv 3) pa_nil)) (pv 3)))))), ?_⟩
  walk_at "r"
  intro a ha
  obtain ⟨nah, nal⟩ := hh.ne2 ha
  have nsh : sa ≠ h := fun e => by
    obtain ⟨ns, k1, c, t, hA⟩ := hh
    rw [e, hA.hp] at hsa; cases hsa
  have nsa : sa ≠ a := ne_of_none hsa ha
  walk_at "r"
  refine Jv.Sk.ix (xs := [.int p, .int q]) ⟨sa, rfl, .inr (Jv.sqT_at (by rw [upd_ne nsa]; exact hsa))⟩ (v := .int p) rfl ?_
  refine ⟨(p : Int), rfl, by omega, by omega, ?_⟩
  refine for_range (lo := 0) (n := ((p : Int)).toNat) (RawOut K h l sa a lad q H)
    ⟨_, _, _, _, [], [], [], rfl, Jv.Kp.new ha, hh.same (Jv.same_new ha), upd_same, .nil, .nil, ⟨rfl, fun _ hm => (by cases hm), fun _ hm => (by cases hm)⟩⟩ ?_ ?_
  · rintro i σ H1 hi ⟨y4, y5, y6, y7, xs, ds, L, rfl, k1, h1, ea, al, pr, rw1⟩
    walk_at "r"
    intro b hb
    have hbH := k1.free h1 hb
    obtain ⟨nbh, nbl⟩ := hh.ne2 hbH
    have nba : b ≠ a := fun e => by rw [e, ea] at hb; cases hb
    have esa := k1 sa _ nsh hsa
    have nsb : sa ≠ b := ne_of_none esa hb
    walk_at "r"
    refine Jv.Sk.ix (xs := [.int p, .int q]) ⟨sa, rfl, .inr (Jv.sqT_at (by rw [upd_ne nsb]; exact esa))⟩ (v := .int q) rfl ?_
    refine ⟨(q : Int), rfl, by omega, by omega, ?_⟩
    refine for_range (lo := 0) (n := ((q : Int)).toNat) (RawIn K h l sa a b lad i H1)
      ⟨_, _, [], [], [], rfl, Jv.Kp.new hb, h1.same (Jv.same_new hb), upd_same, .nil, .nil, rfl, fun _ hm => (by cases hm)⟩ ?_ ?_
    · rintro j σ H2 hj ⟨y6, y7, us, es, line, rfl, k2, h2, eb, alU, prU, lU, hE⟩
      walk_at "r"
      refine ⟨h, l, lad, rfl, h2, ⟨l0, l6⟩, fun r ns H3 n0 n4 nb hr2 er k3 h3 => ?_⟩
      have eb3 := k3 b _ nbh eb
      walk_at "r"
      refine ⟨h, l, _, rfl, h3, ⟨by decide, Jv.log_small (by decide) (by decide)⟩, fun z H4 z0 z1 k4 h4 => ?_⟩
      walk_at "r"
      have hr1 := k2.free h2 hr2
      obtain ⟨nrh, nrl⟩ := hh.ne2 (k1.free h1 hr1)
      have nra : r ≠ a := fun e => by rw [e, ea] at hr1; cases hr1
      have nrb : r ≠ b := fun e => by rw [e, eb] at hr2; cases hr2
      have er4 := k4 r _ nrh er
      have k24 := k3.trans k4
      have eb4 := k24 b _ nbh eb
      have lus : us.length = j := by rw [alU.len, Paired.length prU, lU]
      have hj6 : j < 6 := by omega
      have fin : ∀ (v : V) (e : PyData) (H5 : Hp), Same H4 H5 → Jv.Dv K (Jv.hide [h, a, b] H5) v e → EndsR e ns → RawIn K h l sa a b lad i H1 (j + 1) [some (.ref h), some (.ref sa), some (.int lad), some (.ref a), some (.int (0 + (i : Int))), some (.ref b), some (V.int (0 + (j : Int))), some (V.ref r)] (upd H5 b (.lst (us ++ [v]))) := fun v e H5 s5 dv eR =>
        ⟨_, _, us ++ [v], es ++ [e], line ++ [ns], rfl, fun c o nc hc => by rw [upd_ne (ne_of_none hc hb)]; exact s5 _ _ (k24 c o nc (k2 c o nc hc)), (h4.same s5).upd nbh nbl, upd_same, by
          rw [Jv.hide_mem (by simp)]
          exact Jv.DvAll.snoc dv ((alU.same (Jv.hide_kp (M := [h, a, b]) List.mem_cons_self (fun _ m => m) k24)).same (Jv.hide_same s5)), pair_snoc prU eR, by rw [List.length_append, lU]; rfl, fun m hm => by
          rcases List.mem_append.mp hm with hm | hm
          · exact hE m hm
          · rw [List.mem_singleton.mp hm]; exact ⟨n0, by omega, nb⟩⟩
      refine Jv.r_decI (fun hz => ?_) (fun hz => ?_)
      · walk_at "r"
        refine ⟨r, _, rfl, .inl ⟨Jv.sqL_at er4, fun t ht => ?_⟩⟩
        have nt : t ∉ [h, a, b] := fun m => by
          obtain ⟨o, ho⟩ := h4.at
          rcases List.mem_cons.mp m with rfl | m
          · rw [ho] at ht; cases ht
          · rcases List.mem_cons.mp m with rfl | m
            · rw [k24 t _ nah (k2 t _ nah ea)] at ht; cases ht
            · rw [List.mem_singleton.mp m, eb4] at ht; cases ht
        walk_at "r"
        refine Jv.r_app (Jv.kp eb4 ht) (by omega) ?_
        exact fin (.ref t) (.tuple (ns.map .int)) _ (Jv.same_new ht) (.tup (Jv.sqT_at (Jv.hide_at nt upd_same)) (Jv.dv_ints _)) rfl
      · walk_at "r"
        refine Jv.r_app eb4 (by omega) ?_
        exact fin (.ref r) (.list (ns.map .int)) _ (Same.refl _) (.lst (Jv.hide_at (by simp [nrh, nra, nrb]) er4) (Jv.dv_ints _)) rfl
    · rintro σ H2 ⟨y6, y7, us, es, line, rfl, k2, h2, eb, alU, prU, lU, hE⟩
      have ea2 := k2 a _ nah ea
      walk_at "r"
      refine ⟨h, l, _, rfl, h2, ⟨by decide, Jv.log_small (by decide) (by decide)⟩, fun z H4 z0 z1 k4 h4 => ?_⟩
      walk_at "r"
      have eb4 := k4 b _ nbh eb
      have ea4 := k4 a _ nah (k2 a _ nah ea)
      have lxs : xs.length = i := by rw [al.len, Paired.length pr, rw1.hp]
      have hi6 : i < 6 := by omega
      have fin : ∀ (v : V) (e : PyData) (H5 : Hp), Same H4 H5 → Jv.Dv K (Jv.hide [h, a] H5) v e → LineR e line → RawOut K h l sa a lad q H (i + 1) [some (.ref h), some (.ref sa), some (.int lad), some (.ref a), some (.int (0 + (i : Int))), some (.ref b), y6, y7] (upd H5 a (.lst (xs ++ [v]))) := fun v e H5 s5 dv eR =>
        ⟨_, _, _, _, xs ++ [v], ds ++ [e], L ++ [line], rfl, fun c o nc hc => by rw [upd_ne (ne_of_none hc ha)]; exact s5 _ _ (k4 c o nc (k2 c o nc (k1 c o nc hc))), (h4.same s5).upd nah nal, upd_same, by
          rw [Jv.hide_mem (by simp)]
          exact Jv.DvAll.snoc dv ((al.same (Jv.hide_kp (M := [h, a]) List.mem_cons_self (fun _ m => m) (k2.trans k4))).same (Jv.hide_same s5)), pair_snoc pr eR, ⟨by rw [List.length_append, rw1.hp]; rfl, fun m hm => by
            rcases List.mem_append.mp hm with hm | hm
            · exact rw1.hq m hm
            · rw [List.mem_singleton.mp hm, lU]; omega, fun m hm => by
            rcases List.mem_append.mp hm with hm | hm
            · exact rw1.ends m hm
            · rw [List.mem_singleton.mp hm]; exact hE⟩⟩
      have alU4 : Jv.DvAll K (Jv.hide [h, a] H4) us es := alU.same (Jv.hide_kp (M := [h, a]) List.mem_cons_self (fun c m => by rcases List.mem_cons.mp m with rfl | m <;> simp_all) k4)
      have hN4 : Jv.Held [h, a] H4 := fun c m => by
        rcases List.mem_cons.mp m with rfl | m
        · exact h4.at
        · rw [List.mem_singleton.mp m]; exact ⟨_, ea4⟩
      refine Jv.r_decI (fun hz => ?_) (fun hz => ?_)
      · walk_at "r"
        refine ⟨b, _, rfl, .inl ⟨Jv.sqL_at eb4, fun t ht => ?_⟩⟩
        walk_at "r"
        refine Jv.r_app (Jv.kp ea4 ht) (by omega) ?_
        exact fin (.ref t) (.tuple es) _ (Jv.same_new ht) (Jv.dv_new ht hN4 alU4) ⟨es, rfl, prU⟩
      · walk_at "r"
        refine Jv.r_app ea4 (by omega) ?_
        exact fin (.ref b) (.list es) _ (Same.refl _) (.lst (Jv.hide_at (by simp [nbh, nba]) eb4) alU4) ⟨es, rfl, prU⟩
  · rintro σ H1 ⟨y4, y5, y6, y7, xs, ds, L, rfl, k1, h1, ea, al, pr, rw1⟩
    walk_at "r"
    refine ⟨h, l, _, rfl, h1, ⟨by decide, Jv.log_small (by decide) (by decide)⟩, fun z H4 z0 z1 k4 h4 => ?_⟩
    walk_at "r"
    have ea4 := k4 a _ nah ea
    have al4 : Jv.DvAll K (Jv.hide [h] H4) xs ds := al.same (Jv.hide_kp (M := [h]) List.mem_cons_self (fun c m => by rw [List.mem_singleton.mp m]; exact List.mem_cons_self) k4)
    have hN4 : Jv.Held [h] H4 := fun c m => by rw [List.mem_singleton.mp m]; exact h4.at
    have rw2 : Rw lad L p q := by
      have : ((p : Int)).toNat = p := rfl
      exact rw1
    refine Jv.r_decI (fun hz => ?_) (fun hz => ?_)
    · walk_at "r"
      refine ⟨a, _, rfl, .inl ⟨Jv.sqL_at ea4, fun t ht => ?_⟩⟩
      exact k _ (.tuple ds) L _ (Jv.dv_new ht hN4 al4) ⟨ds, rfl, pr⟩ rw2 ((k1.trans k4).trans (Jv.Kp.new ht)) (h4.same (Jv.same_new ht))
    · walk_at "r"
      exact k _ (.list ds) L _ (.lst (Jv.hide_at (by simp [nah]) ea4) al4) ⟨ds, rfl, pr⟩ rw2 (k1.trans k4) h4
end
end K07

namespace K07
open PySem PySem.Spec PyProof.Rows L2
theorem _root_.Jv.r_makeX {C : Addr} {sp : Sp} {dvs : List V} {E : L2.St → XK} {t : TA} {σ : L2.St} {H : Hp} {Q : VK} (h : t σ H fun vs H1 => ∀ x dx, H1 x = none → H1 dx = none → dx ≠ x →
  sp (.ref x :: (vs ++ dvs)) (upd (upd H1 dx (.own x)) x (.ins C dx [])) (fun v H2 => v = .non ∧ Q (.ref x) H2) (E σ)) : Jv.tMakeX C sp dvs E t σ H Q := h
theorem lot_len {k : Int} : ∀ {ns : List Int} {lo : Int}, ns.Pairwise (· < ·) → (∀ n ∈ ns, lo ≤ n ∧ n < k) → (ns.length : Int) ≤ max 0 (k - lo)
  | [], lo, _, _ => by simp; omega
  | a :: r, lo, hs, h => by
    have h1 := List.pairwise_cons.mp hs
    have ha := h a List.mem_cons_self
    have h2 := lot_len (k := k) (ns := r) (lo := a + 1) h1.2 fun n hn => by
      have := h1.1 n hn
      have := h n (List.mem_cons_of_mem _ hn)
      omega
    rw [List.length_cons]
    omega
theorem lot_le {k : Int} {ns : List Int} (h : Jv.lotP k ns) : (ns.length : Int) ≤ max 0 k := by
  have := lot_len (k := k) (lo := 0) h.2.2 fun n hn => by have := h.1 n hn; omega
  omega
def cell (L : List (List (List Int))) (e w : Int) : List Int := (((L[e.toNat]?).getD [])[w.toNat]?).getD []
def cutL (L : List (List (List Int))) (n1 n2 : List Int) : List (List (List Int)) := n1.map fun e => n2.map fun w => cell L e w
theorem Wd.at {l : Int} {L : List (List (List Int))} {p q : Nat} (w : Wd l L p q) {e f : Int} (he : 0 ≤ e ∧ e < p) (hf : 0 ≤ f ∧ f < q) : ∃ line, L[e.toNat]? = some line ∧ line ∈ L ∧ line[f.toNat]? = some (cell L e f) ∧ cell L e f ∈ line := by
  have hp := w.hp
  have h1 : e.toNat < L.length := by omega
  have e1 := List.getElem?_eq_getElem h1
  have hm := List.mem_of_getElem? e1
  have hq := w.hq _ hm
  have h2 : f.toNat < L[e.toNat].length := by omega
  have e2 := List.getElem?_eq_getElem h2
  have ec : cell L e f = L[e.toNat][f.toNat] := by
    unfold cell
    rw [e1]
    show ((L[e.toNat])[f.toNat]?).getD [] = _
    rw [e2]; rfl
  exact ⟨_, e1, hm, by rw [ec]; exact e2, by rw [ec]; exact List.mem_of_getElem? e2⟩
theorem Wd.cut {l : Int} {L : List (List (List Int))} {p q : Nat} (w : Wd l L p q) {n1 n2 : List Int} (h1 : Jv.lotP p n1) (h2 : Jv.lotP q n2) : Wd l (cutL L n1 n2) n1.length n2.length := by
  have l1 := lot_le h1
  have l2 := lot_le h2
  have p6 := w.p6
  have q6 := w.q6
  have m1 : n1.length ≤ p := by omega
  have m2 : n2.length ≤ q := by omega
  refine ⟨w.l0, w.l6, by unfold cutL; rw [List.length_map], fun line hl => ?_, by have := h1.2.1; omega, by omega, by have := h2.2.1; omega, by omega, Nat.le_trans (Nat.mul_le_mul m1 m2) w.pq, fun line hl ns hn => ?_⟩
  · obtain ⟨e, _, rfl⟩ := List.mem_map.mp hl
    rw [List.length_map]
  · obtain ⟨e, he, rfl⟩ := List.mem_map.mp hl
    obtain ⟨f, hf, rfl⟩ := List.mem_map.mp hn
    have b1 := h1.1 e he
    have b2 := h2.1 f hf
    obtain ⟨line, _, hm, _, hc⟩ := w.at (e := e) (f := f) (by omega) (by omega)
    exact w.ends line hm _ hc
def sp_kept (K : PySem.W.Frag) (C CL : Addr) : Sp := fun vs H Q E => ∃ a x y l L k0 k1, ∃ p q : Nat, ∃ d1 d2, vs = [.ref a, x, y] ∧ GAt K H C a l (wantT L) k0 k1 p q ∧ Wd l L p q ∧ Jv.Dv K H x d1 ∧ few60 d1 ∧ Jv.Dv K H y d2 ∧ few60 d2 ∧
  ((∃ n1 n2, Jv.seqD d1 = some (n1.map .int) ∧ Jv.lotP p n1 ∧ Jv.seqD d2 = some (n2.map .int) ∧ Jv.lotP q n2 ∧ ∀ r H', Same H H' → GAt K H' C r l (wantT (cutL L n1 n2)) k0 k1 n1.length n2.length → Q (.ref r) H') ∨
   (lotD p d1 = false ∧ ∀ e H', Same H H' → H' e = some (.xd [("side", .int 0)]) → E (.ref CL) (some e) H') ∨
   (∃ n1, Jv.seqD d1 = some (n1.map .int) ∧ Jv.lotP p n1 ∧ lotD q d2 = false ∧ ∀ e H', Same H H' → H' e = some (.xd [("side", .int 1)]) → E (.ref CL) (some e) H'))
section
variable {P : Program} {w : World} {K : PySem.W.Frag} {mg : Str → Option Value} {base : Heap}
end
end K07

namespace K07
open PySem PySem.Spec PyProof.Rows L2
/-! ### facts of goals -/
theorem canAll_map {α : Type} {f : α → PyData} (h : ∀ x, (f x).canLay0 = true) : ∀ l : List α, PyData.canLayAll0 (l.map f) = true
  | [] => by simp [PyData.canLayAll0]
  | a :: r => by simp [PyData.canLayAll0, h a, canAll_map h r]
theorem depAll_map {α : Type} {f : α → PyData} {n : Nat} (h : ∀ x, (f x).depth ≤ n) : ∀ l : List α, PyData.depthAll (l.map f) ≤ n
  | [] => by simp [PyData.depthAll]
  | a :: r => by
    have h1 := h a
    have h2 := depAll_map h r
    simp [PyData.depthAll]; omega
theorem can_want (L : List (List (List Int))) : (wantT L).canLay0 = true := by
  unfold wantT
  simp only [PyData.canLay0]
  refine canAll_map (fun line => ?_) L
  unfold lineT
  simp only [PyData.canLay0]
  exact canAll_map (fun ns => by simp only [PyData.canLay0]; exact Jv.canAll_ints ns) line
theorem dep_want (L : List (List (List Int))) : (wantT L).depth ≤ 3 := by
  unfold wantT
  simp only [PyData.depth]
  have : PyData.depthAll (L.map lineT) ≤ 2 := by
    refine depAll_map (fun line => ?_) L
    unfold lineT
    simp only [PyData.depth]
    have : PyData.depthAll (line.map fun ns => PyData.tuple (ns.map .int)) ≤ 1 := depAll_map (fun ns => by simp only [PyData.depth, Jv.depAll_ints]; omega) line
    omega
  omega
theorem shaped_want (L : List (List (List Int))) : SeqAt.shaped (wantT L) = true := by
  have h1 := can_want L
  have h2 := dep_want L
  simp [SeqAt.shaped, h1]; omega
theorem shaped_bb (a b : Bool) : SeqAt.shaped (.tuple [.bool a, .bool b]) = true := by simp [SeqAt.shaped, PyData.canLay0, PyData.canLayAll0, PyData.depth, PyData.depthAll]
theorem shaped_ii (a b : Int) : SeqAt.shaped (.tuple [.int a, .int b]) = true := by simp [SeqAt.shaped, PyData.canLay0, PyData.canLayAll0, PyData.depth, PyData.depthAll]
theorem eqv_want (L : List (List (List Int))) : PyData.eqv (wantT L) (wantT L) = true := SeqAt.eqv_refl _ (can_want L)
theorem eqv_bb (a b : Bool) : PyData.eqv (.tuple [.bool a, .bool b]) (.tuple [.bool a, .bool b]) = true := SeqAt.eqv_refl _ (by simp [PyData.canLay0, PyData.canLayAll0])
theorem eqv_ii (a b : Int) : PyData.eqv (.tuple [.int a, .int b]) (.tuple [.int a, .int b]) = true := SeqAt.eqv_refl _ (by simp [PyData.canLay0, PyData.canLayAll0])
def sp_Lgoal_facts (K : PySem.W.Frag) (C : Addr) : Sp := fun vs H Q _ => ∃ a l L k0 k1, ∃ p q : Nat, ∃ w k, vs = [.ref a, .int l, w, k] ∧ GAt K H C a l (wantT L) k0 k1 p q ∧ Wd l L p q ∧ Jv.Dv K H w (wantT L) ∧ Jv.Dv K H k (.tuple [.bool k0, .bool k1]) ∧ ∀ H', Same H H' → Q (.bl true) H'
section
variable {P : Program} {w : World} {K : PySem.W.Frag} {mg : Str → Option Value} {base : Heap}
theorem ok_Lgoal_facts (T : Tx) (O : Ok K mg T) : FnOk P w K mg base CX0 2 T.f_Lgoal_facts T.d_Lgoal_facts ["_law_goals", "_law_ladder", "_law_wanted", "_law_known"] (sp_Lgoal_facts K T.C_Goals) := by
  refine O.F_Lgoal_facts.ok sc_Lgoal_facts (fun vs H Q E h => by obtain ⟨_, _, _, _, _, _, _, _, _, rfl, _⟩ := h; rfl) (fun cdv A outer s H vs Q E hr h => ?_)
  obtain ⟨a, l, L, k0, k1, p, q, wv, kv, rfl, hg, hw, hW, hK, k⟩ := h
  obtain ⟨dx, wv0, kv0, tv0, hga, hW0, hK0, hS0⟩ := id hg
  obtain ⟨ka, rfl, sqk0⟩ : ∃ ka, kv0 = .ref ka ∧ SqT K H ka [.bl k0, .bl k1] := by
    cases hK0 with
    | tup h qd => exact ⟨_, rfl, by rw [Jv.dv_bools (bs := [k0, k1]) qd] at h; exact h⟩
  obtain ⟨wa, ws, rfl, sqw0, alw0⟩ : ∃ wa ws, wv0 = .ref wa ∧ SqT K H wa ws ∧ Jv.DvAll K H ws (L.map lineT) := by
    cases hW0 with
    | tup h qd => exact ⟨_, _, rfl, h, qd⟩
  obtain ⟨ks, skk, alk⟩ := hK.sk rfl
  obtain rfl := Jv.dv_bools (bs := [k0, k1]) alk
  obtain ⟨us, sku, alu⟩ := hW.sk rfl
  have lus := alu.len
  rw [List.length_map, hw.hp] at lus
  refine ⟨_, (pss_cons (ps_if (PW.pt (pw_or (pt_not (pt_val (pe_call (ok_Lwhole T O) (hr.mono (by decide)) (by rfl) O.m_Lwhole O.F_Lwhole.kp O.b_Lwhole .nil pass0 (pa_cons (show PE _ _ (tFld K _ _) from pe_fld (pv 0) rfl) pa_nil)))) (pw_or (pt_cmpR op_ne (show PE _ _ (tFld K _ _) from pe_fld (pv 0) rfl) (pv 1) (nomark _)) (pw_or1 (pt_cmpR (r := rNeD K) (op_neD hr.units) (show PE _ _ (tFld K _ _) from pe_fld (pv 0) rfl) (pv 3) (nomark _)))))) (pss_one (ps_ret pe_bl)) pss_nil)
  (pss_cons (ps_if (PW.pt (pw_or (pt_not (pt_val (pe_callB (r := rIsi K) call_isi (by rfl) O.z_isinstance (by decide +kernel) (pa_cons (show PE _ _ (tFld K _ _) from pe_fld (pv 0) rfl) (pa_cons (pe_bltn (v := .ty "tuple") (by rfl) O.z_tuple (by decide +kernel) rfl) pa_nil))))) (pw_or (pt_not (pt_val (pe_call (ok_Lis T O) (hr.mono (by decide)) (by rfl) O.m_Lis O.F_Lis.kp O.b_Lis .nil pass0 (pa_cons (pe_ix (r := rIxT K) ix_tup (show PE _ _ (tFld K _ _) from pe_fld (pv 0) rfl) pe_int (fun _ _ => rfl)) (pa_cons (pe_ix (r := rIx K) ix_seq (pv 3) pe_int (fun _ _ => rfl)) pa_nil))))) (pw_or1 (pt_not (pt_val (pe_call (ok_Lis T O) (hr.mono (by decide)) (by rfl) O.m_Lis O.F_Lis.kp O.b_Lis .nil pass0 (pa_cons (pe_ix (r := rIxT K) ix_tup (show PE _ _ (tFld K _ _) from pe_fld (pv 0) rfl) pe_int (fun _ _ => rfl)) (pa_cons (pe_ix (r := rIx K) ix_seq (pv 3) pe_int (fun _ _ => rfl)) pa_nil))))))))) (pss_one (ps_ret pe_bl)) pss_nil)
  (pss_cons (ps_if (pt_cmpR (r := rNeD K) (op_neD hr.units) (show PE _ _ (tFld K _ _) from pe_fld (pv 0) rfl) (pe_tup (pa_cons (pe_callB (r := Jv.rLenK K) Jv.cr_len (by rfl) O.z_len (by decide +kernel) (pa_cons (pv 2) pa_nil)) (pa_cons (pe_callB (r := Jv.rLenK K) Jv.cr_len (by rfl) O.z_len (by decide +kernel) (pa_cons (pe_ix (r := rIx K) ix_seq (pv 2) pe_int (fun _ _ => rfl)) pa_nil)) pa_nil))) (nomark _)) (pss_one (ps_ret pe_bl)) pss_nil)
  (pss_cons (ps_if (PW.pt (pw_or (pt_not (pt_val (pe_callB (r := rIsi K) call_isi (by rfl) O.z_isinstance (by decide +kernel) (pa_cons (show PE _ _ (tFld K _ _) from pe_fld (pv 0) rfl) (pa_cons (pe_bltn (v := .ty "tuple") (by rfl) O.z_tuple (by decide +kernel) rfl) pa_nil))))) (pw_or1 (pt_cmpR (r := rNeD K) (op_neD hr.units) (show PE _ _ (tFld K _ _) from pe_fld (pv 0) rfl) (pv 2) (nomark _))))) (pss_one (ps_ret pe_bl)) pss_nil)
  (pss_cons (ps_for PassesOwn.never rfl (show PI _ _ _ (iTup K _) from pi_tup (show PE _ _ (tFld K _ _) from pe_fld (pv 0) rfl)) (pg_name (i := 4) sc_Lgoal_facts.nd rfl (Or.inl rfl)) (pss_cons (ps_if (PW.pt (pw_or (pt_not (pt_val (pe_callB (r := rIsi K) call_isi (by rfl) O.z_isinstance (by decide +kernel) (pa_cons (pv 4) (pa_cons (pe_bltn (v := .ty "tuple") (by rfl) O.z_tuple (by decide +kernel) rfl) pa_nil))))) (pw_or1 (pt_not (pt_val (pe_callB (r := rAll K) (cr_all rfl) (by rfl) O.z_all (by decide +kernel) (pa_cons (pe_lc (own := [("_law_ends_here", 5)]) (by rfl) sc_Lgoal_facts.nd (Jv.piOr (show PI _ _ _ (iList K _) from pi_list (pv 4)) (show PI _ _ _ (iTup K _) from pi_tup (pv 4))) (blkOk_by (own := [("_law_ends_here", 5)]) (N := ["_law_goals", "_law_ladder", "_law_wanted", "_law_known", "_law_line", "_law_ends_here", "_law_end"]) (sc := defScope s_Lgoal_facts) (scope := ({ kind := .function, names := [(".0", .local), ("_law_ends_here", .local), ("isinstance", .globalImplicit), ("tuple", .globalImplicit)], isGenerator := false, isCoroutine := false } : Scope)) (by decide +kernel)) (fun _ _ _ _ _ => (pg_name (i := 5) sc_Lgoal_facts.nd rfl (Or.inl rfl))) (fun _ _ _ _ _ => pts_nil) (fun _ _ _ _ _ => (pe_callB (r := rIsi K) call_isi (by rfl) O.z_isinstance (by decide +kernel) (pa_cons (pv 5) (pa_cons (pe_bltn (v := .ty "tuple") (by rfl) O.z_tuple (by decide +kernel) rfl) pa_nil))))) pa_nil))))))) (pss_one (ps_ret pe_bl)) pss_nil)
  (pss_one (ps_for PassesOwn.never rfl (Jv.piOr (show PI _ _ _ (iList K _) from pi_list (pv 4)) (show PI _ _ _ (iTup K _) from pi_tup (pv 4))) (pg_name (i := 5) sc_Lgoal_facts.nd rfl (Or.inl rfl)) (pss_one (ps_if (pt_not (pt_val (pe_callB (r := rAll K) (cr_all rfl) (by rfl) O.z_all (by decide +kernel) (pa_cons (pe_lc (own := [("_law_end", 6)]) (by rfl) sc_Lgoal_facts.nd (Jv.piOr (show PI _ _ _ (iList K _) from pi_list (pv 5)) (show PI _ _ _ (iTup K _) from pi_tup (pv 5))) (blkOk_by (own := [("_law_end", 6)]) (N := ["_law_goals", "_law_ladder", "_law_wanted", "_law_known", "_law_line", "_law_ends_here", "_law_end"]) (sc := defScope s_Lgoal_facts) (scope := ({ kind := .function, names := [(".0", .local), ("_law_end", .local), ("_law_whole", .globalImplicit)], isGenerator := false, isCoroutine := false } : Scope)) (by decide +kernel)) (fun _ _ _ _ _ => (pg_name (i := 6) sc_Lgoal_facts.nd rfl (Or.inl rfl))) (fun _ _ _ _ _ => pts_nil) (fun _ _ _ _ _ => (pe_call (ok_Lwhole T O) (hr.mono (by decide)) (by rfl) O.m_Lwhole O.F_Lwhole.kp O.b_Lwhole .nil pass0 (pa_cons (pv 6) pa_nil)))) pa_nil)))) (pss_one (ps_ret pe_bl)) pss_nil))))))
  (pss_one (ps_ret pe_bl))))))), ?_⟩
  walk_at "r"
  refine Jv.r_fld ?_
  walk_at "r"
  refine ⟨a, _, dx, _, _, rfl, hga, O.o_Goals, O.n_Goals_ladder, rfl, ?_⟩
  walk_at "r"
  refine ⟨_, _, rfl, .int l, ?_⟩
  walk_at "r"
  refine Jv.r_fld ?_
  walk_at "r"
  refine ⟨a, _, dx, _, _, rfl, hga, O.o_Goals, O.n_Goals_ladder, rfl, ?_⟩
  walk_at "r"
  rw [decide_eq_true (p := V.int l = V.int l) rfl]
  walk_at "r"
  refine Jv.r_fld ?_
  walk_at "r"
  refine ⟨a, _, dx, _, _, rfl, hga, O.o_Goals, O.n_Goals_knows, rfl, ?_⟩
  walk_at "r"
  refine ⟨_, _, hK0.dp, hK.dp, shaped_bb _ _, shaped_bb _ _, ?_⟩
  rw [eqv_bb]
  walk_at "r"
  refine Jv.r_fld ?_
  walk_at "r"
  refine ⟨a, _, dx, _, _, rfl, hga, O.o_Goals, O.n_Goals_knows, rfl, ?_⟩
  walk_at "r"
  refine Jv.d_isT hK0 ?_
  walk_at "r"
  refine Jv.r_fld ?_
  walk_at "r"
  refine ⟨a, _, dx, _, _, rfl, hga, O.o_Goals, O.n_Goals_knows, rfl, ?_⟩
  walk_at "r"
  refine skk.ix (k := 0) (v := .bl k0) rfl ?_
  walk_at "r"
  refine ⟨k0, k0, rfl, ?_⟩
  rw [decide_eq_true (p := k0 = k0) rfl]
  walk_at "r"
  refine Jv.r_fld ?_
  walk_at "r"
  refine ⟨a, _, dx, _, _, rfl, hga, O.o_Goals, O.n_Goals_knows, rfl, ?_⟩
  walk_at "r"
  refine skk.ix (k := 1) (v := .bl k1) rfl ?_
  walk_at "r"
  refine ⟨k1, k1, rfl, ?_⟩
  rw [decide_eq_true (p := k1 = k1) rfl]
  walk_at "r"
  refine Jv.r_fld ?_
  walk_at "r"
  refine ⟨a, _, dx, _, _, rfl, hga, O.o_Goals, O.n_Goals_sides, rfl, ?_⟩
  walk_at "r"
  refine sku.len ?_
  walk_at "r"
  have hp0 := hw.p0
  have hpL := hw.hp
  have hul : 0 < us.length := by omega
  obtain ⟨dl, c1, c2⟩ := alu.at (i := 0) (List.getElem?_eq_getElem hul)
  rw [List.getElem?_map] at c1
  obtain ⟨line, c3, rfl⟩ := Option.map_eq_some_iff.mp c1
  have hlq := hw.hq line (List.mem_of_getElem? c3)
  obtain ⟨xs, skx, alx⟩ := c2.sk rfl
  have lxs := alx.len
  rw [List.length_map, hlq] at lxs
  refine sku.ix (Jv.at_i (by decide) (List.getElem?_eq_getElem hul)) ?_
  walk_at "r"
  refine skx.len ?_
  walk_at "r"
  intro t ht
  rw [lus, lxs]
  have s1 : Same H (upd H t (.tup [.int p, .int q])) := Jv.same_new ht
  have et : upd H t (.tup [.int p, .int q]) t = some (.tup [.int p, .int q]) := upd_same
  generalize upd H t (.tup [.int p, .int q]) = H1 at s1 et ⊢
  walk_at "r"
  refine ⟨_, _, (hS0.same s1).dp, .tup (Jv.sqT_at et) (.cons (.int _) (.cons (.int _) .nil)), shaped_ii _ _, shaped_ii _ _, ?_⟩
  rw [eqv_ii]
  walk_at "r"
  have hga1 := s1 _ _ hga
  refine Jv.r_fld ?_
  walk_at "r"
  refine ⟨a, _, dx, _, _, rfl, hga1, O.o_Goals, O.n_Goals_wanted, rfl, ?_⟩
  walk_at "r"
  refine Jv.d_isT (hW0.same s1) ?_
  walk_at "r"
  refine Jv.r_fld ?_
  walk_at "r"
  refine ⟨a, _, dx, _, _, rfl, hga1, O.o_Goals, O.n_Goals_wanted, rfl, ?_⟩
  walk_at "r"
  refine ⟨_, _, (hW0.same s1).dp, (hW.same s1).dp, shaped_want _, shaped_want _, ?_⟩
  rw [eqv_want]
  walk_at "r"
  refine Jv.r_fld ?_
  walk_at "r"
  refine ⟨a, _, dx, _, _, rfl, hga1, O.o_Goals, O.n_Goals_wanted, rfl, ?_⟩
  walk_at "r"
  refine ⟨wa, rfl, ⟨_, Jv.Same.sqT s1 sqw0⟩, ?_⟩
  refine for_tup (xs := ws) (fun i σ H2 => ∃ y4 y5, σ = [some (.ref a), some (.int l), some wv, some kv, y4, y5, none] ∧ Same H H2) ⟨_, _, rfl, s1⟩ (fun i σ H2 _ ⟨_, _, _, s2⟩ => Jv.Same.sqT s2 sqw0) ?_ ?_
  · rintro i v σ H2 hv ⟨y4, y5, rfl, s2⟩
    obtain ⟨dl2, g1, g2⟩ := alw0.at hv
    rw [List.getElem?_map] at g1
    obtain ⟨line2, g3, rfl⟩ := Option.map_eq_some_iff.mp g1
    have hlm2 := List.mem_of_getElem? g3
    have hlq2 := hw.hq line2 hlm2
    have hq6 := hw.q6
    obtain ⟨va, vs, rfl, sqv, alv⟩ : ∃ va vs, v = .ref va ∧ SqT K H va vs ∧ Jv.DvAll K H vs (line2.map fun ns => .tuple (ns.map .int)) := by
      cases g2 with
      | tup h qd => exact ⟨_, _, rfl, h, qd⟩
    have lvs := alv.len
    rw [List.length_map] at lvs
    walk_at "r"
    refine Jv.d_isT (g2.same s2) ?_
    walk_at "r"
    have skv2 : Jv.Sk K H2 (.ref va) vs := ⟨va, rfl, .inr (Jv.Same.sqT s2 sqv)⟩
    refine Jv.lcS2 (K := K) (N := []) (j := 5) (i := 4) rfl skv2 .nil ((line2.map fun _ => true).map PyData.bool) (by rw [List.length_map, List.length_map]; omega) (by omega) (fun i2 u e2 D2 H7 hi2 hu he2 s7 hN2 hD2 PP2 hP2 => ?_) (fun D2 ys2 H7 s7 hD2 eD2 dv2 _ => ?_)
    · obtain ⟨dn, n1, n2⟩ := alv.at hu
      rw [List.getElem?_map] at n1
      obtain ⟨ns, n3, rfl⟩ := Option.map_eq_some_iff.mp n1
      rw [List.map_map, List.getElem?_map, n3] at he2
      obtain rfl := Option.some.inj he2
      walk_at "r"
      refine Jv.d_isT (n2.same (s2.trans s7)) ?_
      exact hP2 _ _ (Same.refl _) (.bl true)
    · walk_at "r"
      rw [Jv.hide_nil] at dv2
      rw [Jv.dv_bools dv2] at eD2
      refine ⟨D2, _, rfl, Jv.sqL_at eD2, ?_⟩
      rw [List.all_map]
      have eall : (line2.all ((id : Bool → Bool) ∘ fun _ => true)) = true := List.all_eq_true.mpr fun _ _ => rfl
      rw [eall]
      walk_at "r"
      have s27 := s2.trans s7
      refine .inr ⟨_, rfl, va, rfl, ⟨_, Jv.Same.sqT s27 sqv⟩, ?_⟩
      refine for_tup (xs := vs) (fun i σ H2 => ∃ y5, σ = [some (.ref a), some (.int l), some wv, some kv, some (.ref va), y5, none] ∧ Same H H2) ⟨_, rfl, s27⟩ (fun i σ H2 _ ⟨_, _, s2⟩ => Jv.Same.sqT s2 sqv) ?_ ?_
      · rintro j u σ H8 hu ⟨y5, rfl, s8⟩
        obtain ⟨dn, n1, n2⟩ := alv.at hu
        rw [List.getElem?_map] at n1
        obtain ⟨ns, n3, rfl⟩ := Option.map_eq_some_iff.mp n1
        obtain ⟨zs, skz, alz⟩ := (n2.same s8).sk rfl
        obtain rfl := Jv.dv_intsV alz
        obtain ⟨few60, _⟩ := hw.range hlm2 (List.mem_of_getElem? n3)
        walk_at "r"
        refine Jv.lcS2 (K := K) (N := []) (j := 6) (i := 5) rfl skz .nil ((ns.map fun _ => true).map PyData.bool) (by rw [List.length_map, List.length_map, List.length_map]) (by rw [List.length_map]; omega) (fun i3 z e3 D3 H9 hi3 hz he3 s9 hN3 hD3 PP3 hP3 => ?_) (fun D3 ys3 H9 s9 hD3 eD3 dv3 _ => ?_)
        · obtain ⟨zz, hzz, rfl⟩ := Jv.map_at hz
          rw [List.map_map, List.getElem?_map, hzz] at he3
          obtain rfl := Option.some.inj he3
          walk_at "r"
          refine ⟨_, _, rfl, .int zz, ?_⟩
          exact hP3 _ _ (Same.refl _) (.bl true)
        · walk_at "r"
          rw [Jv.hide_nil] at dv3
          rw [Jv.dv_bools dv3] at eD3
          refine ⟨D3, _, rfl, Jv.sqL_at eD3, ?_⟩
          rw [List.all_map]
          have eall3 : (ns.all ((id : Bool → Bool) ∘ fun _ => true)) = true := List.all_eq_true.mpr fun _ _ => rfl
          rw [eall3]
          walk_at "r"
          exact ⟨_, rfl, s8.trans s9⟩
      · rintro σ H8 ⟨y5, rfl, s8⟩
        exact ⟨_, _, rfl, s8⟩
  · rintro σ H2 ⟨y4, y5, rfl, s2⟩
    walk_at "r"
    exact k _ s2
end
end K07

namespace Jv
open PySem PySem.Spec PyProof.Rows L2
/-! ### comprehensions over a tuple that an expression makes; walks of any kind -/
section
variable {K : PySem.W.Frag} {σ : L2.St} {H : Hp} {te te0 : TE} {tt : TT} {Q : VK} {xs : List V} {es : List PyData} {j n : Nat} {N : List Addr}
theorem lc_any {J : It} {G : Hp → Prop} {Y : Nat → Hp → V → Hp → Prop} (w : Walk J n G Y) {B : V → Hp → (Hp → Prop) → Prop} {Fin : Hp → Prop} {H0 : Hp} (Pv : Nat → Hp → Prop) (h0 : Pv 0 H0) (hG : ∀ i H, i ≤ n → Pv i H → G H)
    (hs : ∀ i x H H', i < n → Pv i H → Y i H x H' → B x H' (Pv (i + 1))) (hd : ∀ H, Pv n H → Fin H) : ∃ W : Nat → Nat → Hp → Prop, (∃ m, W 0 m H0) ∧ ∀ i m H, W i m H →
      (J.stop i H ∧ Fin H) ∨ (J.go i H ∧ ∃ Nx : Hp → Prop, (∀ H', Nx H' → ∃ m', m' < m ∧ W (i + 1) m' H') ∧ ∀ x H', J.yld i H x H' → B x H' Nx) := by
  refine ⟨fun i m H => m = n - i ∧ i ≤ n ∧ Pv i H, ⟨n, by simp, Nat.zero_le _, h0⟩, ?_⟩
  rintro i m H ⟨rfl, hi, p⟩
  have q := hG i H hi p
  by_cases lt : i < n
  · exact .inr ⟨w.goes i H lt q, Pv (i + 1), fun H' p' => ⟨n - (i + 1), by omega, rfl, lt, p'⟩, fun x H' y => hs i x H H' lt p (w.yields i H x H' lt q y)⟩
  · have e : i = n := by omega
    subst e
    exact .inl ⟨w.stops H q, hd H p⟩
theorem lc2_in {wi wi1 : TI} {g g1 : TG} {tt1 : TT} {vs vs1 : List Nat} (h : wi σ H fun J H1 => ∀ D, H1 D = none → ∃ W : Nat → Nat → Hp → Prop, (∃ m, W 0 m (upd H1 D (.lst []))) ∧ ∀ i m H, W i m H →
  (J.stop i H ∧ Q (.ref D) H) ∨ (J.go i H ∧ ∃ Nx : Hp → Prop, (∀ H', Nx H' → ∃ m', m' < m ∧ W (i + 1) m' H') ∧ ∀ x H', J.yld i H x H' → g x (wipe σ vs) H' fun σ2 H2 => wipe σ2 vs = wipe σ vs ∧ tt σ2 H2 fun b H3 =>
    if b = true then wi1 σ2 H3 fun J1 H4 => ∃ W1 : Nat → Nat → Hp → Prop, (∃ m, W1 0 m H4) ∧ ∀ j k H, W1 j k H →
      (J1.stop j H ∧ Nx H) ∨ (J1.go j H ∧ ∃ Nx1 : Hp → Prop, (∀ H', Nx1 H' → ∃ k', k' < k ∧ W1 (j + 1) k' H') ∧ ∀ x H', J1.yld j H x H' → g1 x (wipe σ2 vs1) H' fun σ3 H5 => wipe σ3 vs1 = wipe σ2 vs1 ∧ tt1 σ3 H5 fun b H6 =>
        if b = true then te σ3 H6 fun y H7 => ∃ acc, H7 D = some (.lst acc) ∧ acc.length < sizeLine ∧ Nx1 (upd H7 D (.lst (acc ++ [y]))) else Nx1 H6)
    else Nx H3)) : tLc2 wi g tt wi1 g1 tt1 te vs vs1 σ H Q := h
/-- the numbers of a new tuple at which a test holds -/
theorem lcFT {ns : List Int} (hit : ∀ P : VK, (∀ t H1, Same H H1 → SqT K H1 t (ns.map V.int) → P (.ref t) H1) → te0 σ H P) (f : Int → Bool) (few : ns.length ≤ 1000)
    (ht : ∀ z H1, z ∈ ns → Same H H1 → ∀ R : Bool → Hp → Prop, (∀ H2, Same H1 H2 → R (f z) H2) → tt ((σ.set j none).set j (some (.int z))) H1 R)
    (hs : ∀ z H1, ∀ P : VK, P (.int z) H1 → te ((σ.set j none).set j (some (.int z))) H1 P)
    (hd : ∀ D H1, Same H H1 → H1 D = some (.lst ((ns.filter f).map V.int)) → Q (.ref D) H1) : tLc (iTup K te0) (gName j) tt te [j] σ H Q :=
  hit _ fun t H1 s1 sq => ⟨t, rfl, ⟨_, sq⟩, lcFW walk_tup (fun _ s => Jv.Same.sqT s sq) f few (fun z H2 m s2 R hR => ht z H2 m (s1.trans s2) R hR) hs fun D H2 s2 _ e => hd D H2 (s1.trans s2) e⟩
/-- results that are data, over a new tuple -/
theorem lcDT (hit : ∀ P : VK, (∀ t H1, Same H H1 → SqT K H1 t xs → P (.ref t) H1) → te0 σ H P) (es : List PyData) (hl : es.length = xs.length) (few : xs.length ≤ 1000)
    (hs : ∀ i v e D H1, i < xs.length → xs[i]? = some v → es[i]? = some e → Same H H1 → ∀ P : VK, (∀ y H2, Same H1 H2 → Dv K (hide [D] H2) y e → P y H2) → te ((σ.set j none).set j (some v)) H1 P)
    (hd : ∀ D ys H1, Same H H1 → H1 D = some (.lst ys) → DvAll K H1 ys es → Q (.ref D) H1) : tLc (iTup K te0) (gName j) tYes te [j] σ H Q :=
  hit _ fun t H1 s1 sq => ⟨t, rfl, ⟨_, sq⟩, lcD walk_tup (fun _ s => Jv.Same.sqT s sq) yat .nil es hl few (fun i v e D H2 hi hv he s2 _ _ P hP => hs i v e D H2 hi hv he (s1.trans s2) P hP) fun D ys H2 s2 _ e al _ => hd D ys H2 (s1.trans s2) e (by rw [hide_nil] at al; exact al)⟩
end
end Jv
namespace K07
open PySem PySem.Spec PyProof.Rows L2
/-! ### ends for a couple, what suits -/
def sp_ends_for (K : PySem.W.Frag) (C CC : Addr) : Sp := fun vs H Q E => ∃ a x l L k0 k1, ∃ p q : Nat, ∃ d, vs = [.ref a, x] ∧ GAt K H C a l (wantT L) k0 k1 p q ∧ Wd l L p q ∧ Jv.Dv K H x d ∧
  ((∃ e f, Jv.seqD d = some [.int e, .int f] ∧ (0 ≤ e ∧ e < p) ∧ (0 ≤ f ∧ f < q) ∧ ∀ v H', Same H H' → Jv.Dv K H' v (.tuple ((cell L e f).map .int)) → Q v H') ∨ (coupleD p q d = false ∧ ∀ H', Same H H' → E (.ref CC) none H'))
def suitB (c : List Int) (k0 k1 b0 b1 : Bool) (z : Int) : Bool := decide (z ∈ c) && (!k0 || b0) && (!k1 || b1)
def sp_suits (K : PySem.W.Frag) (C CC : Addr) : Sp := fun vs H Q E => ∃ a x z kn l L k0 k1, ∃ p q : Nat, ∃ d b0 b1, vs = [.ref a, x, .int z, kn] ∧ GAt K H C a l (wantT L) k0 k1 p q ∧ Wd l L p q ∧ Jv.Dv K H x d ∧ Jv.Sk K H kn [.bl b0, .bl b1] ∧
  ((∃ e f, Jv.seqD d = some [.int e, .int f] ∧ (0 ≤ e ∧ e < p) ∧ (0 ≤ f ∧ f < q) ∧ ∀ H', Same H H' → Q (.bl (suitB (cell L e f) k0 k1 b0 b1 z)) H') ∨ (coupleD p q d = false ∧ ∀ H', Same H H' → E (.ref CC) none H'))
section
variable {P : Program} {w : World} {K : PySem.W.Frag} {mg : Str → Option Value} {base : Heap}
end
end K07

namespace Jv
open PySem PySem.Spec PyProof.Rows L2
section
variable {σ : L2.St} {H : Hp} {te : TE} {tl th : TO} {r : V → Option Int → Option Int → Hp → VK → Prop} {Q : VK} {P : Option Int → Hp → Prop}
theorem r_tSl (h : te σ H fun x H1 => tl σ H1 fun l H2 => th σ H2 fun u H3 => r x l u H3 Q) : tSl r te tl th σ H Q := h
theorem r_noPart (h : P none H) : tNoPart σ H P := h
theorem r_part (h : te σ H fun x H1 => ∃ i, x = .int i ∧ P (some i) H1) : tPart te σ H P := h
theorem r_partI {i : Int} {P : Int → Prop} (h : P i) : ∃ j, V.int i = .int j ∧ P j := ⟨i, rfl, h⟩
end
section
variable {K : PySem.W.Frag} {H H' : Hp} {Q : VK} {a b : Addr} {xs ys : List V} {lo hi : Option Int}
theorem r_slL (h : H a = some (.lst xs)) (q : ∀ p H', H p = none → Same H H' → H' p = some (.lst (cutV xs lo hi)) → Q (.ref p) H') : rSlL K (.ref a) lo hi H Q := ⟨a, xs, rfl, sqL_at h, fun p hp => q p _ hp (same_new hp) upd_same⟩
theorem r_cat (h1 : H a = some (.lst xs)) (h2 : H b = some (.lst ys)) (few : xs.length + ys.length ≤ 1000) (q : ∀ p H', H p = none → Same H H' → H' p = some (.lst (xs ++ ys)) → Q (.ref p) H') : rCat (.ref a) (.ref b) H Q :=
  ⟨a, b, xs, ys, rfl, rfl, h1, h2, small_of few, fun p hp => q p _ hp (same_new hp) upd_same⟩
theorem cut_take {k : Int} (h : 0 ≤ k) : cutV xs none (some k) = xs.take k.toNat := by
  obtain ⟨j, rfl⟩ : ∃ j : Nat, k = j := ⟨k.toNat, by omega⟩
  unfold cutV
  rw [HT.sIx_none, HT.sIx_nat, List.drop_zero, Nat.sub_zero, ← List.take_take, List.take_length]; rfl
theorem cut_drop {k : Int} (h : 0 ≤ k) (h2 : k.toNat ≤ xs.length) : cutV xs (some k) none = xs.drop k.toNat := by
  obtain ⟨j, rfl⟩ : ∃ j : Nat, k = j := ⟨k.toNat, by omega⟩
  unfold cutV
  rw [HT.sIx_none, HT.sIx_nat]
  have e : min j xs.length = j := by simp at h2; omega
  rw [e, List.take_of_length_le (by rw [List.length_drop]; omega)]; rfl
theorem DvAll.take : ∀ {vs : List V} {ds : List PyData} (n : Nat), DvAll K H vs ds → DvAll K H (vs.take n) (ds.take n)
  | _, _, 0, _ => by simp; exact .nil
  | _, _, n + 1, .nil => .nil
  | _, _, n + 1, .cons a b => .cons a (DvAll.take n b)
theorem DvAll.drop : ∀ {vs : List V} {ds : List PyData} (n : Nat), DvAll K H vs ds → DvAll K H (vs.drop n) (ds.drop n)
  | _, _, 0, h => h
  | _, _, n + 1, .nil => .nil
  | _, _, n + 1, .cons _ b => DvAll.drop n b
theorem DvAll.one {v : V} {d : PyData} (h : Dv K H v d) : DvAll K H [v] [d] := .cons h .nil
end
end Jv

namespace Jv
open PySem PySem.Spec PyProof.Rows L2
section
variable {σ : L2.St} {H : Hp} {te : TE} {Q : VK} {i j : Nat} {z : Str}
theorem lcStr (hv : σ[i]? = some (some (.str z))) (f : Nat → Bool) (few : z.length ≤ 1000)
    (hs : ∀ c H1, Same H H1 → ∀ P : VK, P (.bl (f c)) H1 → te ((σ.set j none).set j (some (.str ⟨#[c]⟩))) H1 P)
    (hd : ∀ D H1, Same H H1 → H D = none → H1 D = some (.lst (z.cps.toList.map fun c => V.bl (f c))) → Q (.ref D) H1) : tLc (iStr (tVar i)) (gName j) tYes te [j] σ H Q := by
  refine ⟨_, hv, z, rfl, fun D hD => ?_⟩
  have hn : z.cps.size = z.cps.toList.length := by simp
  refine lc_it walk_str (fun n H1 => Same H H1 ∧ H1 D = some (.lst ((z.cps.toList.take n).map fun c => V.bl (f c)))) ⟨same_new hD, upd_same⟩ (fun _ _ _ _ => True.intro) ?_ ?_
  · rintro n x H1 H2 hi ⟨s1, e1⟩ ⟨rfl, c, hc, rfl⟩
    refine ⟨wipe1, r_yes (r_true (c := true) rfl ?_)⟩
    refine hs c _ s1 _ ⟨_, e1, ?_, fun b o e => kpO (s1 b o e) (ne_of_none e hD), ?_⟩
    · rw [List.length_map, List.length_take]
      have : z.length = z.cps.size := rfl
      exact small_lt (by omega)
    · rw [upd_same]
      have hc2 : z.cps.toList[n]? = some c := by rw [← hc]; simp
      rw [take_more hc2, List.map_append]; rfl
  · rintro H1 ⟨s1, e1⟩
    rw [hn, List.take_length] at e1
    exact hd D H1 s1 hD e1
theorem r_m1 {r : V → List V → Hp → VK → Prop} {to : TE} (h : to σ H fun x H1 => (∃ a, x = .str a) ∧ te σ H1 fun y H2 => r x [y] H2 Q) : tM1 r to te σ H Q := h
end
end Jv
namespace K07
open PySem PySem.Spec PyProof.Rows L2
/-! ### a number's text -/
theorem starts1 (l : List Nat) (c : Nat) : Txt.startswith ⟨l.toArray⟩ ⟨#[c]⟩ = decide (l.head? = some c) := by
  cases l with
  | nil => rfl
  | cons a r =>
    show (decide (0 + 1 ≤ (a :: r).toArray.size) && ((a :: r).toArray.extract 0 (0 + 1) == #[c])) = _
    by_cases h : a = c
    · subst h
      simp
    · have : ¬ (some a = some c) := fun e => h (Option.some.inj e)
      simp [h]
/-- what a word reads as: 1 to 6 signs, all figures, no 0 ahead of more -/
def numF (l : List Nat) : Option Nat := if (1 ≤ l.length ∧ l.length ≤ 6) ∧ (∀ c ∈ l, 48 ≤ c ∧ c ≤ 57) ∧ ¬ (l.head? = some 48 ∧ 1 < l.length) then some (NumText.digitsVal l) else none
def numV : Option Nat → V
  | none => .non
  | some n => .int n
/-- an end: a minus ahead of a number that is not 0 -/
def endF (l : List Nat) : Option Int := match l with
  | 45 :: r => match numF r with
    | some (n + 1) => some (-((n + 1 : Nat) : Int))
    | _ => none
  | _ => (numF l).map fun n => (n : Int)
def endV : Option Int → V
  | none => .non
  | some n => .int n
def sp_number_from : Sp := fun vs H Q _ => ∃ x : Str, vs = [.str x] ∧ x.length ≤ 1000 ∧ ∀ H', Same H H' → Q (numV (numF x.cps.toList)) H'
def sp_end_from : Sp := fun vs H Q _ => ∃ x : Str, vs = [.str x] ∧ x.length ≤ 1000 ∧ ∀ H', Same H H' → Q (endV (endF x.cps.toList)) H'
theorem figs : ∀ c : Nat, (c ∈ (Str.ofString "0123456789").cps.toList) ↔ (48 ≤ c ∧ c ≤ 57) := fun c => by
  have e : (Str.ofString "0123456789").cps.toList = [48, 49, 50, 51, 52, 53, 54, 55, 56, 57] := by decide +kernel
  rw [e]
  simp only [List.mem_cons, List.not_mem_nil, or_false]
  omega
theorem str_eta (x : Str) : x = ⟨x.cps.toList.toArray⟩ := by cases x; simp
theorem starts0 (x : Str) : Txt.startswith x (Str.ofString "0") = decide (x.cps.toList.head? = some 48) := by
  have e : Str.ofString "0" = ⟨#[48]⟩ := by decide +kernel
  rw [e]
  conv => lhs; rw [str_eta x]
  exact starts1 _ _
theorem startsM (x : Str) : Txt.startswith x (Str.ofString "-") = decide (x.cps.toList.head? = some 45) := by
  have e : Str.ofString "-" = ⟨#[45]⟩ := by decide +kernel
  rw [e]
  conv => lhs; rw [str_eta x]
  exact starts1 _ _
theorem numF_no {l : List Nat} (h : ¬ ((1 ≤ l.length ∧ l.length ≤ 6) ∧ (∀ c ∈ l, 48 ≤ c ∧ c ≤ 57) ∧ ¬ (l.head? = some 48 ∧ 1 < l.length))) : numF l = none := if_neg h
theorem numF_yes {l : List Nat} (h : (1 ≤ l.length ∧ l.length ≤ 6) ∧ (∀ c ∈ l, 48 ≤ c ∧ c ≤ 57) ∧ ¬ (l.head? = some 48 ∧ 1 < l.length)) : numF l = some (NumText.digitsVal l) := if_pos h
section
variable {P : Program} {w : World} {K : PySem.W.Frag} {mg : Str → Option Value} {base : Heap}
theorem ok_number_from (T : Tx) (O : Ok K mg T) : FnOk P w K mg base CX0 1 T.f_number_from T.d_number_from ["word"] sp_number_from := by
  refine O.F_number_from.ok sc_number_from (fun vs H Q E h => by obtain ⟨_, rfl, _⟩ := h; rfl) (fun cdv A0 outer s H vs Q E hr h => ?_)
  obtain ⟨x, rfl, few, q⟩ := h
  refine ⟨_, (pss_cons (ps_if (PW.pt (pw_or (pt_not (pt_chain op_le op_le pe_int (pe_callB call_len_str (by rfl) O.z_len (by decide +kernel) (pa_cons (pv 0) pa_nil)) (pe_glob (v := .int (6)) (by rfl) O.c_FIGURES_MOST ⟨_, rfl⟩))) (pw_or1 (pt_not (pt_val (pe_callB (r := rAll K) (cr_all rfl) (by rfl) O.z_all (by decide +kernel) (pa_cons (pe_lc (own := [("sign", 1)]) (by rfl) sc_number_from.nd (pi_str (pv 0)) (blkOk_by (own := [("sign", 1)]) (N := ["word", "sign"]) (sc := defScope s_number_from) (scope := ({ kind := .function, names := [(".0", .local), ("sign", .local), ("FIGURES", .globalImplicit)], isGenerator := false, isCoroutine := false } : Scope)) (by decide +kernel)) (fun _ _ _ _ _ => (pg_name (i := 1) sc_number_from.nd rfl (Or.inl rfl))) (fun _ _ _ _ _ => pts_nil) (fun _ _ _ _ _ => (pe_cmpR op_in_sign (pv 1) (pe_glob (v := .str "0123456789") (by rfl) O.c_FIGURES ⟨_, rfl⟩) rfl))) pa_nil))))))) (pss_one (ps_ret pe_non)) pss_nil)
  (pss_cons (ps_if (PW.pt (pw_and (pt_val (pe_m1 PySem.F.slot_str_startswith PySem.F.type_str_startswith mt_startswith (pv 0) pe_str)) (pw_and1 (pt_cmpR op_gt (pe_callB call_len_str (by rfl) O.z_len (by decide +kernel) (pa_cons (pv 0) pa_nil)) pe_int (nomark _))))) (pss_one (ps_ret pe_non)) pss_nil)
  (pss_one (ps_ret (pe_callTy call_int_str (by rfl) O.z_int (by decide +kernel) (pa_cons (pv 0) pa_nil)))))), ?_⟩
  walk_at "r"
  refine ⟨x, rfl, Jv.small_of few, ?_⟩
  have hl : x.length = x.cps.toList.length := by show x.cps.size = _; simp
  walk_at "r"
  refine Jv.r_dec (fun a1 => ?_) (fun a1 => ?_)
  · walk_at "r"
    by_cases a2 : (x.length : Int) ≤ 6
    · rw [decide_eq_true a2]
      walk_at "r"
      refine Jv.lcStr (i := 0) (by rfl) (fun c => decide (48 ≤ c ∧ c ≤ 57)) few (fun c H1 s1 PP hP => ?_) (fun D H1 s1 hD eD => ?_)
      · walk_at "r"
        refine ⟨c, _, rfl, rfl, ?_⟩
        rw [show decide (c ∈ (Str.ofString "0123456789").cps.toList) = decide (48 ≤ c ∧ c ≤ 57) from decide_eq_decide.mpr (figs c)]
        exact hP
      · have eD2 : H1 D = some (.lst ((x.cps.toList.map fun c => decide (48 ≤ c ∧ c ≤ 57)).map V.bl)) := by rw [eD, List.map_map]; rfl
        walk_at "r"
        refine ⟨D, _, rfl, Jv.sqL_at eD2, ?_⟩
        by_cases a3 : ∀ c ∈ x.cps.toList, 48 ≤ c ∧ c ≤ 57
        · have all : (x.cps.toList.map fun c => decide (48 ≤ c ∧ c ≤ 57)).all id = true := by
            rw [List.all_map, List.all_eq_true]
            exact fun c hc => decide_eq_true (a3 c hc)
          rw [all]
          walk_at "r"
          refine Jv.r_m1 ?_
          walk_at "r"
          refine ⟨⟨x, rfl⟩, ?_⟩
          walk_at "r"
          refine ⟨x, _, rfl, rfl, ?_⟩
          rw [starts0]
          walk_at "r"
          refine Jv.r_dec (fun a4 => ?_) (fun a4 => ?_)
          · walk_at "r"
            refine ⟨x, rfl, Jv.small_of few, ?_⟩
            walk_at "r"
            refine Jv.r_dec (fun a5 => ?_) (fun a5 => ?_)
            · walk_at "r"
              rw [numF_no fun h => h.2.2 ⟨a4, by omega⟩] at q
              exact q _ s1
            · walk_at "r"
              refine ⟨x, _, rfl, intText_digits a3 (fun e => by rw [e] at hl; simp at hl; omega) (by omega), by omega, ?_⟩
              rw [numF_yes ⟨⟨by omega, by omega⟩, a3, fun h => a5 (by omega)⟩] at q
              exact q _ s1
          · walk_at "r"
            refine ⟨x, _, rfl, intText_digits a3 (fun e => by rw [e] at hl; simp at hl; omega) (by omega), by omega, ?_⟩
            rw [numF_yes ⟨⟨by omega, by omega⟩, a3, fun h => a4 h.1⟩] at q
            exact q _ s1
        · have all : (x.cps.toList.map fun c => decide (48 ≤ c ∧ c ≤ 57)).all id = false := by
            rw [List.all_map]
            refine Bool.eq_false_iff.mpr fun e => a3 fun c hc => ?_
            exact of_decide_eq_true (List.all_eq_true.mp e c hc)
          rw [all]
          walk_at "r"
          rw [numF_no fun h => a3 h.2.1] at q
          exact q _ s1
    · rw [decide_eq_false a2]
      walk_at "r"
      rw [numF_no fun h => a2 (by have := h.1.2; omega)] at q
      exact q _ (Same.refl _)
  · walk_at "r"
    rw [numF_no fun h => a1 (by have := h.1.1; omega)] at q
    exact q _ (Same.refl _)
theorem endF_pos {l : List Nat} (h : ¬ l.head? = some 45) : endV (endF l) = numV (numF l) := by
  have e : endF l = (numF l).map fun n => (n : Int) := by
    cases l with
    | nil => rfl
    | cons a r =>
      unfold endF
      split
      · rename_i e; cases e; exact absurd rfl h
      · rfl
  rw [e]
  cases numF l <;> rfl
theorem cut1 (x : Str) : (cutS x (some 1) none).cps.toList = x.cps.toList.tail := by
  have hl : x.length = x.cps.toList.length := by show x.cps.size = _; simp
  have e1 : HT.sIx x.length 0 (some (1 : Int)) = min 1 x.length := HT.sIx_nat ..
  unfold cutS
  rw [e1, HT.sIx_none]
  cases e : x.cps.toList with
  | nil => simp
  | cons a r =>
    rw [e] at hl
    rw [hl, Nat.min_eq_left (by simp)]
    simp
theorem ok_end_from (T : Tx) (O : Ok K mg T) : FnOk P w K mg base CX0 2 T.f_end_from T.d_end_from ["word"] sp_end_from := by
  refine O.F_end_from.ok sc_end_from (fun vs H Q E h => by obtain ⟨_, rfl, _⟩ := h; rfl) (fun cdv A0 outer s H vs Q E hr h => ?_)
  obtain ⟨x, rfl, few, q⟩ := h
  refine ⟨_, (pss_cons (ps_if (pt_not (pt_val (pe_m1 PySem.F.slot_str_startswith PySem.F.type_str_startswith mt_startswith (pv 0) pe_str))) (pss_one (ps_ret (pe_call (ok_number_from T O) (hr.mono (by decide)) (by rfl) O.m_number_from O.F_number_from.kp O.b_number_from .nil pass0 (pa_cons (pv 0) pa_nil)))) pss_nil)
  (pss_cons (ps_set (i := 1) sc_end_from.nd rfl (Or.inl rfl) (pe_call (ok_number_from T O) (hr.mono (by decide)) (by rfl) O.m_number_from O.F_number_from.kp O.b_number_from .nil pass0 (pa_cons (pe_slice sl_str (pv 0) (po_some pe_int) po_none) pa_nil)))
  (pss_one (ps_ret (pe_ifExp (pt_truth (pv 1) (by intro _; rfl)) (pe_un un_neg (pv 1)) pe_non))))), ?_⟩
  walk_at "r"
  refine Jv.r_m1 ?_
  walk_at "r"
  refine ⟨⟨x, rfl⟩, ?_⟩
  walk_at "r"
  refine ⟨x, _, rfl, rfl, ?_⟩
  rw [startsM]
  by_cases h : x.cps.toList.head? = some 45
  · rw [decide_eq_true h]
    walk_at "r"
    refine Jv.r_tSl ?_
    walk_at "r"
    refine Jv.r_part ?_
    walk_at "r"
    refine Jv.r_partI (Jv.r_noPart ?_)
    refine ⟨x, rfl, Jv.small_of few, ?_⟩
    have hl : x.length = x.cps.toList.length := by show x.cps.size = _; simp
    walk_at "r"
    refine ⟨_, rfl, Nat.le_trans (cutS_length _ _ _) few, fun H1 s1 => ?_⟩
    rw [cut1]
    obtain ⟨r, hr2⟩ : ∃ r, x.cps.toList = 45 :: r := by
      cases e : x.cps.toList with
      | nil => rw [e] at h; cases h
      | cons a r => rw [e] at h; cases h; exact ⟨r, rfl⟩
    rw [hr2] at q ⊢
    show gName _ _ _ _ _
    cases e : numF r with
    | none =>
      have e2 : endF (45 :: r) = none := by show (match numF r with | some (n + 1) => _ | _ => _) = _; rw [e]
      rw [e2] at q
      simp only [List.tail_cons, e, numV]
      walk_at "r"
      refine ⟨false, rfl, ?_⟩
      walk_at "r"
      exact q _ s1
    | some n =>
      cases n with
      | zero =>
        have e2 : endF (45 :: r) = none := by show (match numF r with | some (n + 1) => _ | _ => _) = _; rw [e]
        rw [e2] at q
        simp only [List.tail_cons, e, numV]
        walk_at "r"
        refine ⟨false, rfl, ?_⟩
        walk_at "r"
        exact q _ s1
      | succ n =>
        have e2 : endF (45 :: r) = some (-((n + 1 : Nat) : Int)) := by show (match numF r with | some (n + 1) => _ | _ => _) = _; rw [e]
        rw [e2] at q
        simp only [List.tail_cons, e, numV]
        walk_at "r"
        refine ⟨true, (by show true = (((n + 1 : Nat) : Int) != 0); simp; omega), ?_⟩
        walk_at "r"
        exact q _ s1
  · rw [decide_eq_false h]
    walk_at "r"
    refine ⟨x, rfl, few, fun H1 s1 => ?_⟩
    rw [endF_pos h] at q
    exact q _ s1
end
end K07

namespace Jv
open PySem PySem.Spec PyProof.Rows L2
/-! ### comprehensions whose items are numbers or new lists -/
section
variable {K : PySem.W.Frag} {σ : L2.St} {H : Hp} {te : TE} {Q : VK} {j a b : Nat} {xs : List V}
theorem lcEnNW {J : It} {G : Hp → Prop} (w : Walk J xs.length G (YPair (fun i => some (.int (i : Nat))) (fun i => xs[i]?))) (hG : ∀ H', Same H H' → G H') (F : Nat → V) (few : xs.length ≤ 900)
    (hw : ∀ x y, wipe (((wipe σ [a, b]).set a (some x)).set b (some y)) [a, b] = wipe σ [a, b])
    (hs : ∀ i v H1, xs[i]? = some v → Same H H1 → ∀ P : VK, (∀ H2, Same H1 H2 → P (F i) H2) → te (((wipe σ [a, b]).set a (some (.int (i : Nat)))).set b (some v)) H1 P)
    (hd : ∀ D H1, Same H H1 → H D = none → H1 D = some (.lst ((List.range xs.length).map F)) → Q (.ref D) H1) : ∀ D, H D = none → ∃ W : Nat → Nat → Hp → Prop, (∃ m, W 0 m (upd H D (.lst []))) ∧ ∀ i m H, W i m H →
      (J.stop i H ∧ Q (.ref D) H) ∨ (J.go i H ∧ ∃ Nx : Hp → Prop, (∀ H', Nx H' → ∃ m', m' < m ∧ W (i + 1) m' H') ∧ ∀ x H', J.yld i H x H' → gTup K 2 (gCons (gName a) (gCons (gName b) gNil)) x (wipe σ [a, b]) H' fun σ2 H2 => wipe σ2 [a, b] = wipe σ [a, b] ∧ tYes σ2 H2 fun b H3 =>
        if b = true then te σ2 H3 fun y H4 => ∃ acc, H4 D = some (.lst acc) ∧ acc.length < sizeLine ∧ Nx (upd H4 D (.lst (acc ++ [y]))) else Nx H3) := by
  intro D hD
  refine lc_it w (fun i H1 => Same H H1 ∧ H1 D = some (.lst ((List.range i).map F))) ⟨same_new hD, upd_same⟩ (fun i H1 _ h => hG H1 h.1) ?_ ?_
  · rintro i x H1 H2 hi ⟨s1, e1⟩ ⟨T, y, z, rfl, hT, rfl, e2, e3⟩
    cases e2
    have sN := same_new (u := .tup [.int (i : Nat), z]) hT
    refine ⟨T, _, rfl, sqT_at upd_same, rfl, _, _, rfl, _, _, rfl, rfl, hw _ _, r_yes (r_ift ?_)⟩
    refine hs i z _ e3 (s1.trans sN) _ fun H3 s3 => ⟨_, s3 _ _ (sN _ _ e1), small_lt (by rw [List.length_map, List.length_range]; omega), fun c o e => ?_, ?_⟩
    · exact kpO (s3 _ _ (sN _ _ (s1 c o e))) (ne_of_none e hD)
    · rw [upd_same, List.range_succ, List.map_append]; rfl
  · rintro H1 ⟨s1, e1⟩
    exact hd D H1 s1 hD e1
theorem lcEnN {ta : TA} {t : Addr} (hit : ∀ P : List V → Hp → Prop, P [.ref t] H → ta σ H P) (ht : SqL K H t xs) (F : Nat → V) (few : xs.length ≤ 900)
    (hw : ∀ x y, wipe (((wipe σ [a, b]).set a (some x)).set b (some y)) [a, b] = wipe σ [a, b])
    (hs : ∀ i v H1, xs[i]? = some v → Same H H1 → ∀ P : VK, (∀ H2, Same H1 H2 → P (F i) H2) → te (((wipe σ [a, b]).set a (some (.int (i : Nat)))).set b (some v)) H1 P)
    (hd : ∀ D H1, Same H H1 → H D = none → H1 D = some (.lst ((List.range xs.length).map F)) → Q (.ref D) H1) : tLc (iEnum K ta) (gTup K 2 (gCons (gName a) (gCons (gName b) gNil))) tYes te [a, b] σ H Q :=
  hit _ ⟨t, xs, rfl, ht, lcEnNW walk_enum (fun H' s => s.seq ht) F few hw hs hd⟩
theorem lcFnW {J : It} {G : Hp → Prop} {Y : Nat → Hp → V → Hp → Prop} {n : Nat} {Fx : Nat → V → Prop} (w : Walk J n G Y) (hG : ∀ H', Same H H' → G H') (hy : ∀ i H x H', i < n → Y i H x H' → H' = H ∧ Fx i x) (F : Nat → V) (few : n ≤ 900)
    (hs : ∀ i v H1, i < n → Fx i v → Same H H1 → ∀ P : VK, (∀ H2, Same H1 H2 → P (F i) H2) → te ((σ.set j none).set j (some v)) H1 P)
    (hd : ∀ D H1, Same H H1 → H D = none → H1 D = some (.lst ((List.range n).map F)) → Q (.ref D) H1) : ∀ D, H D = none → ∃ W : Nat → Nat → Hp → Prop, (∃ m, W 0 m (upd H D (.lst []))) ∧ ∀ i m H, W i m H →
      (J.stop i H ∧ Q (.ref D) H) ∨ (J.go i H ∧ ∃ Nx : Hp → Prop, (∀ H', Nx H' → ∃ m', m' < m ∧ W (i + 1) m' H') ∧ ∀ x H', J.yld i H x H' → gName j x (wipe σ [j]) H' fun σ2 H2 => wipe σ2 [j] = wipe σ [j] ∧ tYes σ2 H2 fun b H3 =>
        if b = true then te σ2 H3 fun y H4 => ∃ acc, H4 D = some (.lst acc) ∧ acc.length < sizeLine ∧ Nx (upd H4 D (.lst (acc ++ [y]))) else Nx H3) := by
  intro D hD
  refine lc_it w (fun i H1 => Same H H1 ∧ H1 D = some (.lst ((List.range i).map F))) ⟨same_new hD, upd_same⟩ (fun i H1 _ h => hG H1 h.1) ?_ ?_
  · rintro i x H1 H2 hi ⟨s1, e1⟩ hx
    obtain ⟨rfl, hf⟩ := hy i _ _ _ hi hx
    refine ⟨wipe1, r_yes (r_ift ?_)⟩
    refine hs i x _ hi hf s1 _ fun H3 s3 => ⟨_, s3 _ _ e1, small_lt (by rw [List.length_map, List.length_range]; omega), fun c o e => ?_, ?_⟩
    · exact kpO (s3 _ _ (s1 c o e)) (ne_of_none e hD)
    · rw [upd_same, List.range_succ, List.map_append]; rfl
  · rintro H1 ⟨s1, e1⟩
    exact hd D H1 s1 hD e1
/-- over a range -/
theorem lcFn {ta : TA} {n : Nat} {k : Int} (hit : ∀ P : List V → Hp → Prop, P [.int k] H → ta σ H P) (hk : k = n) (F : Nat → V) (few : n ≤ 900)
    (hs : ∀ (i : Nat) (H1 : Hp), i < n → Same H H1 → ∀ P : VK, (∀ H2, Same H1 H2 → P (F i) H2) → te ((σ.set j none).set j (some (.int (i : Nat)))) H1 P)
    (hd : ∀ D H1, Same H H1 → H D = none → H1 D = some (.lst ((List.range n).map F)) → Q (.ref D) H1) : tLc (iRng1 ta) (gName j) tYes te [j] σ H Q := by
  subst hk
  exact hit _ ⟨_, rfl, by omega, by omega, lcFnW (walk_range (lo := 0) (n := ((n : Nat) : Int).toNat)) (fun _ _ => trivial) yfn F (by omega) (fun i v H1 hi hv s P hP => by subst hv; rw [Int.zero_add]; exact hs i H1 (by omega) s P hP) fun D H1 s hD e => hd D H1 s hD (by rw [Int.toNat_natCast] at e; exact e)⟩
/-- over a list that a name holds -/
theorem lcFl {i : Nat} {t : Addr} (hv : σ[i]? = some (some (.ref t))) (ht : SqL K H t xs) (F : Nat → V) (few : xs.length ≤ 900)
    (hs : ∀ i v H1, xs[i]? = some v → Same H H1 → ∀ P : VK, (∀ H2, Same H1 H2 → P (F i) H2) → te ((σ.set j none).set j (some v)) H1 P)
    (hd : ∀ D H1, Same H H1 → H D = none → H1 D = some (.lst ((List.range xs.length).map F)) → Q (.ref D) H1) : tLc (iList K (tVar i)) (gName j) tYes te [j] σ H Q :=
  ⟨_, hv, t, rfl, ⟨xs, ht⟩, lcFnW walk_list (fun H' s => s.seq ht) yat F few (fun i v H1 _ hv s P hP => hs i v H1 hv s P hP) hd⟩
/-- new lists, one for each turn of a range -/
theorem lcOwnR {ta : TA} {n : Nat} {k : Int} (hit : ∀ P : List V → Hp → Prop, P [.int k] H → ta σ H P) (hk : k = n) (F : Nat → List V) (few : n ≤ 900)
    (hs : ∀ (i : Nat) D (H1 : Hp), i < n → Same H H1 → H D = none → ∀ P : VK, (∀ t H2, H1 t = none → Same H1 H2 → H2 t = some (.lst (F i)) → P (.ref t) H2) → te ((σ.set j none).set j (some (.int (i : Nat)))) H1 P)
    (hd : ∀ D (As : List Addr) H1, Same H H1 → H D = none → As.length = n → As.Nodup → D ∉ As → (∀ b ∈ As, H b = none) → H1 D = some (.lst (As.map V.ref)) → (∀ (k : Nat) b, As[k]? = some b → H1 b = some (.lst (F k))) → Q (.ref D) H1) : tLc (iRng1 ta) (gName j) tYes te [j] σ H Q := by
  subst hk
  exact hit _ ⟨_, rfl, by omega, by omega, lcOwnD (walk_range (lo := 0) (n := ((n : Nat) : Int).toNat)) (fun _ _ => trivial) yfn F (by omega) (fun i v D H1 hi hv s hD P hP => by subst hv; rw [Int.zero_add]; exact hs i D H1 (by omega) s hD P hP) fun D As H1 s hD e => hd D As H1 s hD (by rw [Int.toNat_natCast] at e; exact e)⟩
theorem inV_ints {z : Int} : ∀ {ns : List Int}, inV (.int z) (ns.map V.int) = decide (z ∈ ns)
  | [] => by simp [inV]
  | a :: r => by
    have ih := inV_ints (z := z) (ns := r)
    unfold inV at ih ⊢
    rw [List.map_cons, List.any_cons, ih, eqV_ints]
    by_cases h : a = z
    · subst h; simp
    · have h2 : ¬ z = a := fun e => h e.symm
      simp [h, h2]
theorem flat_ints {ns : List Int} : (ns.map V.int).all flatV = true := by
  rw [List.all_map, List.all_eq_true]; exact fun z _ => rfl
theorem r_in {x : V} {z : Int} {ns : List Int} (h : Sk K H x (ns.map V.int)) (q : Q (.bl (decide (z ∈ ns))) H) : rIn K false (.int z) x H Q := by
  obtain ⟨a, rfl, h⟩ := h
  refine ⟨a, ns.map V.int, rfl, h, rfl, flat_ints, ?_⟩
  rw [inV_ints]; exact q
end
end Jv

namespace Jv
open PySem PySem.Spec PyProof.Rows L2
section
variable {K : PySem.W.Frag} {σ : L2.St} {H : Hp} {te : TE} {Q : VK} {j : Nat}
theorem lcFe {te0 : TE} (h : ∀ R : VK, (∀ A zs (F : Nat → V) H1, SqL K H1 A zs → zs.length ≤ 900 → (∀ i v H2, zs[i]? = some v → Same H1 H2 → ∀ P : VK, (∀ H3, Same H2 H3 → P (F i) H3) → te ((σ.set j none).set j (some v)) H2 P) →
      (∀ D H2, Same H1 H2 → H1 D = none → H2 D = some (.lst ((List.range zs.length).map F)) → Q (.ref D) H2) → R (.ref A) H1) → te0 σ H R) : tLc (iList K te0) (gName j) tYes te [j] σ H Q :=
  h _ fun A zs F H1 hz few hs hd => ⟨A, rfl, ⟨zs, hz⟩, lcFnW walk_list (fun H' s => s.seq hz) yat F few (fun i v H2 _ hv s P hP => hs i v H2 hv s P hP) hd⟩
end
end Jv
namespace K07
open PySem PySem.Spec PyProof.Rows L2
/-! ### a fault of a text: its line, what it is -/
def sp_BadText_init (C : Addr) : Sp := fun vs H Q _ => ∃ a v w, vs = [.ref a, v, w] ∧ H a = some (exo a C none) ∧ ∀ d, H d = none → d ≠ a → Q .non (upd (upd (upd H d (exd d [("number", v)])) a (exo a C (some d))) d (exd d [("what", w), ("number", v)]))
def xT (n : Nat) (f : Str) : HO := .xd [("what", .str f), ("number", .int n)]
theorem raise_sameT {H : Hp} {a d : Addr} {x y z u t : HO} (ha : H a = none) (hd : H d = none) : Same H (upd (del (upd (upd (upd (upd H a x) d y) a z) d t) a) d u) := fun b o hb => by
  have na := ne_of_none hb ha
  have nd := ne_of_none hb hd
  rw [upd_ne nd, del_ne na, upd_ne nd, upd_ne na, upd_ne nd, upd_ne na]
  exact hb
theorem raiseT {C : Addr} {n : Nat} {f : Str} {E : XK} {σ : L2.St} {H : Hp} {ta : TA} (hit : ∀ P : List V → Hp → Prop, P [.int n, .str f] H → ta σ H P) (k : ∀ d H', Same H H' → H' d = some (xT n f) → E (.ref C) (some d) H') : tMkO C (sp_BadText_init C) [] ta σ H (fun cls d H' => E cls d H') :=
  hit _ ⟨Nat.le_of_ble_eq_true rfl, fun a ha => ⟨a, _, _, rfl, upd_same, fun d hd ne => ⟨rfl, d, _, by rw [upd_ne (Ne.symm ne)]; exact upd_same, upd_same, by rw [upd_ne ne] at hd; exact hd, by
      rw [upd_ne ne] at hd
      exact k d _ (raise_sameT ha hd) upd_same⟩⟩⟩
/-- the words behind a line's head, or the fault -/
def sepB : Str := Str.ofString " "
def wordsB (lines : List Str) (n : Nat) (head : Str) (many : Nat) : Except Str (List Str) :=
  if lines.length < n then .error (Str.ofString "missing") else
    if (Txt.split (lines.getD (n - 1) Str.empty) sepB).getD 0 Str.empty ≠ head ∨ (Txt.split (lines.getD (n - 1) Str.empty) sepB).length ≠ many + 1 then .error (Str.ofString "form") else .ok ((Txt.split (lines.getD (n - 1) Str.empty) sepB).drop 1)
theorem spl_some (S : List Nat) : ∀ (l : List Nat) (k : Nat) (acc : List Nat), TL.spl S k acc l ≠ []
  | [], k, acc => by cases k <;> simp [TL.spl]
  | c :: r, 0, acc => by
    rw [TL.spl]
    split
    · simp
    · exact spl_some S r 0 _
  | c :: r, k + 1, acc => by
    rw [TL.spl]
    exact spl_some S r k acc
theorem split_ne (x : Str) : Txt.split x (Str.ofString " ") ≠ [] := fun e => by
  have h := TL.split_spl x (Str.ofString " ") (by decide +kernel) (TL.kind_ok (by decide +kernel))
  rw [e] at h
  exact spl_some _ _ _ _ h.symm
def sp_words_behind (K : PySem.W.Frag) (C : Addr) : Sp := fun vs H Q E => ∃ (a : Addr) (lines : List Str) (n : Nat) (head : Str) (many : Nat), vs = [.ref a, .int n, .str head, .int many] ∧ H a = some (.lst (lines.map V.str)) ∧ 1 ≤ n ∧ lines.length ≤ 900 ∧ (∀ x ∈ lines, x.length ≤ 900) ∧
  ((∃ f, wordsB lines n head many = .error f ∧ ∀ d H', Same H H' → H' d = some (xT n f) → E (.ref C) (some d) H') ∨
   ∃ ws, wordsB lines n head many = .ok ws ∧ ∀ p H', Same H H' → H p = none → H' p = some (.lst (ws.map V.str)) → Q (.ref p) H')
section
variable {P : Program} {w : World} {K : PySem.W.Frag} {mg : Str → Option Value} {base : Heap}
theorem ok_BadTextu_initu (T : Tx) (O : Ok K mg T) : FnOk P w K mg base CX0 1 T.f_BadTextu_initu T.d_BadTextu_initu ["self", "number", "what"] (sp_BadText_init T.C_BadText) := by
  refine O.F_BadTextu_initu.ok sc_BadTextu_initu (fun vs H Q E h => by obtain ⟨_, _, _, rfl, _⟩ := h; rfl) (fun cdv A outer s H vs Q E hr h => ?_)
  obtain ⟨a, v, w1, rfl, ha, q⟩ := h
  refine ⟨_, (pss_cons (ps_ost (pv 0) (pv 1))
  (pss_one (ps_ost (pv 0) (pv 2)))), ?_⟩
  refine ⟨_, rfl, _, rfl, a, T.C_BadText, rfl, O.x_BadText.o, O.n_BadText_number, .inl ⟨ha, fun d hd ne => ?_⟩⟩
  exact ⟨_, rfl, _, rfl, a, T.C_BadText, rfl, O.x_BadText.o, O.n_BadText_what, .inr ⟨d, _, upd_same, by rw [upd_ne ne]; exact upd_same, Nat.le_of_ble_eq_true rfl, q d hd ne⟩⟩
theorem ok_words_behind (T : Tx) (O : Ok K mg T) : FnOk P w K mg base (L2.CX P w) 3 T.f_words_behind T.d_words_behind ["lines", "number", "head", "many"] (sp_words_behind K T.C_BadText) := by
  refine O.F_words_behind.okX sc_words_behind (fun vs H Q E h => by obtain ⟨_, _, _, _, _, rfl, _⟩ := h; rfl) (fun cdv A0 outer s H vs Q E hr h => ?_)
  obtain ⟨a, lines, n, head, many, rfl, ha, n1, few, fw, qq⟩ := h
  refine ⟨_, (pss_cons (ps_if (pt_cmpR op_gt (pv 1) (pe_callB (r := Jv.rLenK K) Jv.cr_len (by rfl) O.z_len (by decide +kernel) (pa_cons (pv 0) pa_nil)) (nomark _)) (pss_one (ps_raise rfl (takes_of rfl rfl rfl rfl) (pmk_oex O.x_BadText.o O.x_BadText.n O.x_BadText.y (ok_BadTextu_initu T O) (hr.mono (by decide)) O.b_BadTextu_initu .nil pass0 (by rfl) O.m_BadText (pa_cons (pv 1) (pa_cons pe_str pa_nil))))) pss_nil)
  (pss_cons (ps_set (i := 4) sc_words_behind.nd rfl (Or.inl rfl) (pe_split (pe_ix (r := rIxL K) ix_list (pv 0) (pe_op op_sub (pv 1) pe_int) (fun _ _ => rfl)) pe_str))
  (pss_cons (ps_if (PW.pt (pw_or (pt_cmpR op_ne (pe_ix (r := rIxL K) ix_list (pv 4) pe_int (fun _ _ => rfl)) (pv 2) (nomark _)) (pw_or1 (pt_cmpR op_ne (pe_callB (r := Jv.rLenK K) Jv.cr_len (by rfl) O.z_len (by decide +kernel) (pa_cons (pv 4) pa_nil)) (pe_op op_add (pv 3) pe_int) (nomark _))))) (pss_one (ps_raise rfl (takes_of rfl rfl rfl rfl) (pmk_oex O.x_BadText.o O.x_BadText.n O.x_BadText.y (ok_BadTextu_initu T O) (hr.mono (by decide)) O.b_BadTextu_initu .nil pass0 (by rfl) O.m_BadText (pa_cons (pv 1) (pa_cons pe_str pa_nil))))) pss_nil)
  (pss_one (ps_ret (pe_slice (r := rSlL K) sl_list (pv 4) (po_some pe_int) po_none)))))), ?_⟩
  have bad : ∀ f, wordsB lines n head many = .error f → ∀ d H', Same H H' → H' d = some (xT n f) → E (.ref T.C_BadText) (some d) H' := fun f e => by
    rcases qq with ⟨g, e2, k⟩ | ⟨ws, e2, _⟩
    · rw [e] at e2; cases e2; exact k
    · rw [e] at e2; cases e2
  walk_at "r"
  refine Jv.r_dec (fun h0 => ?_) (fun h0 => ?_)
  · rw [List.length_map] at h0
    exact raiseT (fun P hP => by walk_at "r"; exact hP) (bad _ (if_pos (by omega)))
  rw [List.length_map] at h0
  have hn : n - 1 < lines.length := by omega
  refine Jv.r_next ?_
  walk_at "r"
  refine Jv.r_m1 ?_
  walk_at "r"
  refine Jv.r_ixL (Jv.sqL_at ha) (Jv.at_i (v := .str lines[n - 1]) (by omega) (by rw [show ((n : Int) - 1).toNat = n - 1 by omega, List.getElem?_map, List.getElem?_eq_getElem hn]; rfl)) ?_
  refine ⟨⟨_, rfl⟩, ?_⟩
  have fx := fw _ (List.getElem_mem hn)
  walk_at "r"
  refine ⟨_, _, rfl, rfl, by decide +kernel, Jv.small_of (by omega), fun p hp => ?_⟩
  have s1 := Jv.same_new (u := .lst ((Txt.split lines[n - 1] (Str.ofString " ")).map V.str)) hp
  have e1 : upd H p (.lst ((Txt.split lines[n - 1] (Str.ofString " ")).map V.str)) p = some (.lst ((Txt.split lines[n - 1] (Str.ofString " ")).map V.str)) := upd_same
  generalize upd H p (.lst ((Txt.split lines[n - 1] (Str.ofString " ")).map V.str)) = H1 at s1 e1 ⊢
  obtain ⟨w0, wr, eL⟩ : ∃ w0 wr, Txt.split lines[n - 1] (Str.ofString " ") = w0 :: wr := by
    cases e : Txt.split lines[n - 1] (Str.ofString " ") with
    | nil => exact absurd e (split_ne _)
    | cons a r => exact ⟨a, r, rfl⟩
  have eG : lines.getD (n - 1) Str.empty = lines[n - 1] := by rw [List.getD_eq_getElem?_getD, List.getElem?_eq_getElem hn]; rfl
  have eW : wordsB lines n head many = if w0 ≠ head ∨ (w0 :: wr).length ≠ many + 1 then .error (Str.ofString "form") else .ok wr := by
    unfold wordsB sepB
    rw [if_neg (by omega), eG, eL]
    rfl
  rw [eL] at e1
  walk_at "r"
  refine Jv.r_ixL (Jv.sqL_at e1) (Jv.at_i (by decide) (by rfl)) ?_
  walk_at "r"
  by_cases c1 : w0 = head
  · subst c1
    rw [decide_eq_true (rfl : V.str w0 = V.str w0)]
    walk_at "r"
    rw [List.length_map]
    by_cases c2 : (w0 :: wr).length = many + 1
    · rw [decide_eq_true (show V.int ((w0 :: wr).length : Nat) = V.int ((many : Int) + 1) by rw [c2]; rfl)]
      walk_at "r"
      refine Jv.r_tSl ?_
      walk_at "r"
      refine Jv.r_part ?_
      walk_at "r"
      refine Jv.r_partI (Jv.r_noPart ?_)
      refine Jv.r_slL e1 fun p2 H2 hp2 s2 e2 => ?_
      rw [Jv.cut_drop (by decide) (by simp), show ((1 : Int)).toNat = 1 from rfl, List.map_cons, List.drop_succ_cons, List.drop_zero] at e2
      have ok : wordsB lines n w0 many = .ok wr := eW.trans (if_neg (by simp [c2]))
      rcases qq with ⟨g, e2', _⟩ | ⟨ws, e2', k⟩
      · rw [ok] at e2'; cases e2'
      · rw [ok] at e2'
        cases e2'
        exact k p2 H2 (s1.trans s2) (Same.free s1 hp2) e2
    · rw [decide_eq_false (fun e => c2 (by have := V.int.inj e; omega))]
      walk_at "r"
      exact raiseT (fun P hP => by walk_at "r"; exact hP) fun d H' s' hd => bad _ (eW.trans (if_pos (.inr c2))) d H' (s1.trans s') hd
  · rw [decide_eq_false (fun e => c1 (V.str.inj e))]
    walk_at "r"
    exact raiseT (fun P hP => by walk_at "r"; exact hP) fun d H' s' hd => bad _ (eW.trans (if_pos (.inl c1))) d H' (s1.trans s') hd
end
end K07

namespace K07
open PySem PySem.Spec PyProof.Rows L2
/-! ### numbers behind a head -/
theorem spl_le (S : List Nat) : ∀ (l : List Nat) (k : Nat) (acc : List Nat), ∀ w ∈ TL.spl S k acc l, w.length ≤ acc.length + l.length
  | [], k, acc => by cases k <;> simp [TL.spl]
  | c :: r, 0, acc => fun w hw => by
    rw [TL.spl] at hw
    split at hw
    · rcases List.mem_cons.mp hw with rfl | hw
      · omega
      · have := spl_le S r (S.length - 1) [] w hw
        simp at this ⊢; omega
    · have := spl_le S r 0 _ w hw
      simp at this ⊢; omega
  | c :: r, k + 1, acc => fun w hw => by
    rw [TL.spl] at hw
    have := spl_le S r k acc w hw
    simp; omega
theorem len_list (x : Str) : x.length = x.cps.toList.length := by show x.cps.size = _; simp
theorem split_le {x w : Str} (h : w ∈ Txt.split x (Str.ofString " ")) : w.length ≤ x.length := by
  have e := TL.split_spl x (Str.ofString " ") (by decide +kernel) (TL.kind_ok (by decide +kernel))
  have m : TL.tl w ∈ (Txt.split x (Str.ofString " ")).map TL.tl := List.mem_map.mpr ⟨w, h, rfl⟩
  rw [e] at m
  have := spl_le _ _ _ _ _ m
  rw [len_list, len_list]
  simpa using this
theorem wordsB_le {lines : List Str} {n many : Nat} {head : Str} {ws : List Str} (fw : ∀ x ∈ lines, x.length ≤ 900) (n1 : 1 ≤ n) (h : wordsB lines n head many = .ok ws) : ws.length = many ∧ ∀ w ∈ ws, w.length ≤ 900 := by
  unfold wordsB at h
  split at h
  · cases h
  · rename_i h0
    split at h
    · cases h
    · rename_i h1
      cases h
      have hn : n - 1 < lines.length := by omega
      have eG : lines.getD (n - 1) Str.empty = lines[n - 1] := by rw [List.getD_eq_getElem?_getD, List.getElem?_eq_getElem hn]; rfl
      refine ⟨?_, fun w hw => ?_⟩
      · rw [List.length_drop]
        have : (Txt.split (lines.getD (n - 1) Str.empty) sepB).length = many + 1 := Classical.byContradiction fun z => h1 (.inr z)
        omega
      · have := split_le (List.mem_of_mem_drop hw)
        rw [eG] at this
        have := fw _ (List.getElem_mem hn)
        omega
/-- numbers, if all words are some -/
def numsOf (ws : List Str) : List (Option Nat) := ws.map fun w => numF w.cps.toList
def numsB (lines : List Str) (n : Nat) (head : Str) (many : Nat) : Except Str (List Nat) := match wordsB lines n head many with
  | .error f => .error f
  | .ok ws => if (numsOf ws).any (·.isNone) = true then .error (Str.ofString "form") else .ok ((numsOf ws).map fun o => o.getD 0)
theorem inV_none : ∀ {os : List (Option Nat)}, inV .non (os.map numV) = os.any (·.isNone)
  | [] => by simp [inV]
  | o :: r => by
    have ih := inV_none (os := r)
    unfold inV at ih ⊢
    rw [List.map_cons, List.any_cons, List.any_cons, ih]
    cases o <;> rfl
theorem flat_nums {os : List (Option Nat)} : (os.map numV).all flatV = true := by
  rw [List.all_map, List.all_eq_true]
  intro o _
  cases o <;> rfl
theorem nums_all {os : List (Option Nat)} (h : os.any (·.isNone) = false) : os.map numV = (os.map fun o => o.getD 0).map fun n => V.int (n : Nat) := by
  rw [List.map_map]
  refine List.map_congr_left fun o ho => ?_
  cases o with
  | none =>
    rw [List.any_eq_false] at h
    exact absurd rfl (h _ ho)
  | some n => rfl
def sp_numbers_behind (K : PySem.W.Frag) (C : Addr) : Sp := fun vs H Q E => ∃ (a : Addr) (lines : List Str) (n : Nat) (head : Str) (many : Nat), vs = [.ref a, .int n, .str head, .int many] ∧ H a = some (.lst (lines.map V.str)) ∧ 1 ≤ n ∧ lines.length ≤ 900 ∧ (∀ x ∈ lines, x.length ≤ 900) ∧ many ≤ 5 ∧
  (∀ f, numsB lines n head many = .error f → ∀ d H', Same H H' → H' d = some (xT n f) → E (.ref C) (some d) H') ∧
  (∀ ns, numsB lines n head many = .ok ns → ns.length = many → ∀ p H', Same H H' → H p = none → H' p = some (.lst (ns.map fun n => V.int (n : Nat))) → Q (.ref p) H')
def ladB (lines : List Str) : Except Str Nat := match numsB lines 1 (Str.ofString "ladder") 1 with
  | .error f => .error f
  | .ok ns => if 6 < ns.getD 0 0 then .error (Str.ofString "range") else .ok (ns.getD 0 0)
def Lns (H : Hp) (a : Addr) (lines : List Str) : Prop := H a = some (.lst (lines.map V.str)) ∧ lines.length ≤ 900 ∧ ∀ x ∈ lines, x.length ≤ 120
def sp_read_ladder (C : Addr) : Sp := fun vs H Q E => ∃ (a : Addr) (lines : List Str), vs = [.ref a] ∧ Lns H a lines ∧
  (∀ f, ladB lines = .error f → ∀ d H', Same H H' → H' d = some (xT 1 f) → E (.ref C) (some d) H') ∧ (∀ l, ladB lines = .ok l → l ≤ 6 → ∀ H', Same H H' → Q (.int (l : Nat)) H')
section
variable {P : Program} {w : World} {K : PySem.W.Frag} {mg : Str → Option Value} {base : Heap}
theorem ok_numbers_behind (T : Tx) (O : Ok K mg T) : FnOk P w K mg base (L2.CX P w) 4 T.f_numbers_behind T.d_numbers_behind ["lines", "number", "head", "many"] (sp_numbers_behind K T.C_BadText) := by
  refine O.F_numbers_behind.okX sc_numbers_behind (fun vs H Q E h => by obtain ⟨_, _, _, _, _, rfl, _⟩ := h; rfl) (fun cdv A0 outer s H vs Q E hr h => ?_)
  obtain ⟨a, lines, n, head, many, rfl, ha, n1, few, fw, fm, kE, kQ⟩ := h
  refine ⟨_, (pss_cons (ps_setLc (i := 4) (own := [("word", 5)]) (by rfl) sc_numbers_behind.nd rfl rfl (sw_true rfl rfl rfl (by decide +kernel)) (show PI _ _ _ (iList K _) from pi_list (pe_callS (ok_words_behind T O) (hr.mono (by decide)) (by rfl) O.m_words_behind O.F_words_behind.kp O.b_words_behind (fun σ => passAt (takes_of rfl rfl rfl rfl) σ) (pa_cons (pv 0) (pa_cons (pv 1) (pa_cons (pv 2) (pa_cons (pv 3) pa_nil)))))) (blkOk_by (own := [("word", 5)]) (N := ["lines", "number", "head", "many", "numbers", "word"]) (sc := defScope s_numbers_behind) (scope := ({ kind := .function, names := [(".0", .local), ("word", .local), ("number_from", .globalImplicit)], isGenerator := false, isCoroutine := false } : Scope)) (by decide +kernel)) (fun _ _ _ _ _ => (pg_name (i := 5) sc_numbers_behind.nd rfl (Or.inl rfl))) (fun _ _ _ _ _ => pts_nil) (fun _ _ _ _ _ => (pe_call (ok_number_from T O) (hr.mono (by decide)) (by rfl) O.m_number_from O.F_number_from.kp O.b_number_from .nil pass0 (pa_cons (pv 5) pa_nil))))
  (pss_cons (ps_if (pt_cmpR (r := rIn K false) op_in_seq pe_non (pv 4) rfl) (pss_one (ps_raise rfl (takes_of rfl rfl rfl rfl) (pmk_oex O.x_BadText.o O.x_BadText.n O.x_BadText.y (ok_BadTextu_initu T O) (hr.mono (by decide)) O.b_BadTextu_initu .nil pass0 (by rfl) O.m_BadText (pa_cons (pv 1) (pa_cons pe_str pa_nil))))) pss_nil)
  (pss_one (ps_ret (pv 4))))), ?_⟩
  walk_at "r"
  refine Jv.lcFe fun R hR => ?_
  walk_at "r"
  refine ⟨a, lines, n, head, many, rfl, ha, n1, few, fw, ?_⟩
  cases e : wordsB lines n head many with
  | error f =>
    refine .inl ⟨f, rfl, kE f ?_⟩
    unfold numsB
    rw [e]
  | ok ws =>
    obtain ⟨lw, fws⟩ := wordsB_le fw n1 e
    refine .inr ⟨ws, rfl, fun p H1 s1 np ep => ?_⟩
    refine hR p (ws.map V.str) (fun i => numV (numF (ws.getD i Str.empty).cps.toList)) H1 (Jv.sqL_at ep) (by rw [List.length_map]; omega) (fun i v H2 hv s2 PP hP => ?_) (fun D H2 s2 hD e2 => ?_)
    · have hi : i < ws.length := by
        have := (List.getElem?_eq_some_iff.mp hv).1
        rw [List.length_map] at this
        exact this
      rw [List.getElem?_map, List.getElem?_eq_getElem hi] at hv
      cases hv
      walk_at "r"
      refine ⟨_, rfl, Nat.le_trans (fws _ (List.getElem_mem hi)) (by decide), fun H3 s3 => ?_⟩
      have := hP _ s3
      rw [List.getD_eq_getElem?_getD, List.getElem?_eq_getElem hi] at this
      exact this
    · have f2 : (List.range (ws.map V.str).length).map (fun i => numV (numF (ws.getD i Str.empty).cps.toList)) = (numsOf ws).map numV := by
        unfold numsOf
        rw [List.length_map]
        refine List.ext_getElem? fun i => ?_
        by_cases hi : i < ws.length
        · rw [List.getElem?_map, List.getElem?_range hi, List.getElem?_map, List.getElem?_map, List.getElem?_eq_getElem hi]
          simp only [Option.map_some, List.getD_eq_getElem?_getD, List.getElem?_eq_getElem hi, Option.getD_some]
        · rw [List.getElem?_eq_none (by simp; omega), List.getElem?_eq_none (by simp; omega)]
      rw [f2] at e2
      have hD0 : H D = none := Same.free s1 hD
      walk_at "r"
      refine ⟨D, _, rfl, .inl (Jv.sqL_at e2), rfl, flat_nums, ?_⟩
      rw [inV_none]
      cases c : (numsOf ws).any (·.isNone) with
      | true =>
        walk_at "r"
        refine raiseT (fun P hP => by walk_at "r"; exact hP) fun d H' s' hd => kE _ ?_ d H' ((s1.trans s2).trans s') hd
        unfold numsB
        rw [e]
        exact if_pos c
      | false =>
        rw [nums_all c] at e2
        walk_at "r"
        refine kQ _ ?_ (by simp [numsOf, lw]) D H2 (s1.trans s2) hD0 e2
        unfold numsB
        rw [e]
        exact if_neg (by rw [c]; simp)
theorem ok_read_ladder (T : Tx) (O : Ok K mg T) : FnOk P w K mg base (L2.CX P w) 5 T.f_read_ladder T.d_read_ladder ["lines"] (sp_read_ladder T.C_BadText) := by
  refine O.F_read_ladder.okX sc_read_ladder (fun vs H Q E h => by obtain ⟨_, _, rfl, _⟩ := h; rfl) (fun cdv A0 outer s H vs Q E hr h => ?_)
  obtain ⟨a, lines, rfl, ⟨ha, few, fw0⟩, kE, kQ⟩ := h
  have fw : ∀ x ∈ lines, x.length ≤ 900 := fun x hx => Nat.le_trans (fw0 x hx) (by decide)
  refine ⟨_, (pss_cons (ps_set (i := 1) sc_read_ladder.nd rfl (Or.inl rfl) (pe_ix (r := rIxL K) ix_list (pe_callS (ok_numbers_behind T O) (hr.mono (by decide)) (by rfl) O.m_numbers_behind O.F_numbers_behind.kp O.b_numbers_behind (fun σ => passAt (takes_of rfl rfl rfl rfl) σ) (pa_cons (pv 0) (pa_cons pe_int (pa_cons pe_str (pa_cons pe_int pa_nil))))) pe_int (fun _ _ => rfl)))
  (pss_cons (ps_if (pt_cmpR op_gt (pv 1) (pe_glob (v := .int (6)) (by rfl) O.c_LADDER_MOST ⟨_, rfl⟩) (nomark _)) (pss_one (ps_raise rfl (takes_of rfl rfl rfl rfl) (pmk_oex O.x_BadText.o O.x_BadText.n O.x_BadText.y (ok_BadTextu_initu T O) (hr.mono (by decide)) O.b_BadTextu_initu .nil pass0 (by rfl) O.m_BadText (pa_cons pe_int (pa_cons pe_str pa_nil))))) pss_nil)
  (pss_one (ps_ret (pv 1))))), ?_⟩
  walk_at "r"
  refine ⟨a, lines, 1, _, 1, rfl, ha, by decide, few, fw, by decide, fun f e => kE f (by unfold ladB; rw [e]), fun ns e ln p H1 s1 np ep => ?_⟩
  obtain ⟨l, rfl⟩ : ∃ l, ns = [l] := by
    match ns, ln with
    | [l], _ => exact ⟨l, rfl⟩
  walk_at "r"
  refine Jv.r_dec (fun z => ?_) (fun z => ?_)
  · exact raiseT (n := 1) (fun P hP => by walk_at "r"; exact hP) fun d H' s' hd => kE _ (by unfold ladB; rw [e]; exact if_pos (show 6 < l by omega)) d H' (s1.trans s') hd
  · walk_at "r"
    exact kQ l (by unfold ladB; rw [e]; exact if_neg (show ¬ 6 < l by omega)) (by omega) H1 s1
end
end K07

namespace K07
open PySem PySem.Spec PyProof.Rows L2
/-! ### the sides, the knows -/
def sideB (p q : Nat) : Bool := Jv.sidesD (.list [.int p, .int q])
def sidesB (lines : List Str) : Except Str (Nat × Nat) := match numsB lines 2 (Str.ofString "sides") 2 with
  | .error f => .error f
  | .ok ns => if sideB (ns.getD 0 0) (ns.getD 1 0) = true then .ok (ns.getD 0 0, ns.getD 1 0) else .error (Str.ofString "range")
def sp_read_sides (K : PySem.W.Frag) (C : Addr) : Sp := fun vs H Q E => ∃ (a : Addr) (lines : List Str), vs = [.ref a] ∧ Lns H a lines ∧
  (∀ f, sidesB lines = .error f → ∀ d H', Same H H' → H' d = some (xT 2 f) → E (.ref C) (some d) H') ∧ (∀ p q, sidesB lines = .ok (p, q) → sideB p q = true → ∀ t H', Same H H' → H t = none → H' t = some (.tup [.int (p : Nat), .int (q : Nat)]) → Q (.ref t) H')
section
variable {P : Program} {w : World} {K : PySem.W.Frag} {mg : Str → Option Value} {base : Heap}
theorem ok_read_sides (T : Tx) (O : Ok K mg T) : FnOk P w K mg base (L2.CX P w) 5 T.f_read_sides T.d_read_sides ["lines"] (sp_read_sides K T.C_BadText) := by
  refine O.F_read_sides.okX sc_read_sides (fun vs H Q E h => by obtain ⟨_, _, rfl, _⟩ := h; rfl) (fun cdv A0 outer s H vs Q E hr h => ?_)
  obtain ⟨a, lines, rfl, ⟨ha, few, fw0⟩, kE, kQ⟩ := h
  have fw : ∀ x ∈ lines, x.length ≤ 900 := fun x hx => Nat.le_trans (fw0 x hx) (by decide)
  refine ⟨_, (pss_cons (ps_set (i := 1) sc_read_sides.nd rfl (Or.inl rfl) (pe_callS (ok_numbers_behind T O) (hr.mono (by decide)) (by rfl) O.m_numbers_behind O.F_numbers_behind.kp O.b_numbers_behind (fun σ => passAt (takes_of rfl rfl rfl rfl) σ) (pa_cons (pv 0) (pa_cons pe_int (pa_cons pe_str (pa_cons pe_int pa_nil))))))
  (pss_cons (ps_if (pt_not (pt_val (pe_call (ok_are_sides T O) (hr.mono (by decide)) (by rfl) O.m_are_sides O.F_are_sides.kp O.b_are_sides .nil pass0 (pa_cons (pv 1) pa_nil)))) (pss_one (ps_raise rfl (takes_of rfl rfl rfl rfl) (pmk_oex O.x_BadText.o O.x_BadText.n O.x_BadText.y (ok_BadTextu_initu T O) (hr.mono (by decide)) O.b_BadTextu_initu .nil pass0 (by rfl) O.m_BadText (pa_cons pe_int (pa_cons pe_str pa_nil))))) pss_nil)
  (pss_one (ps_ret (pe_callTy (r := Jv.rTupOf K) call_tuple_of (by rfl) O.z_tuple (by decide +kernel) (pa_cons (pv 1) pa_nil)))))), ?_⟩
  walk_at "r"
  refine ⟨a, lines, 2, _, 2, rfl, ha, by decide, few, fw, by decide, fun f e => kE f (by unfold sidesB; rw [e]), fun ns e ln p H1 s1 np ep => ?_⟩
  obtain ⟨l, m, rfl⟩ : ∃ l m, ns = [l, m] := by
    match ns, ln with
    | [l, m], _ => exact ⟨l, m, rfl⟩
  walk_at "r"
  refine ⟨.ref p, .list [.int l, .int m], rfl, .lst ep (.cons (.int _) (.cons (.int _) .nil)), fun H2 s2 => ?_⟩
  have ep2 := s2 _ _ ep
  cases c : sideB l m with
  | false =>
    have c2 : Jv.sidesD (.list [.int l, .int m]) = false := c
    rw [c2]
    walk_at "r"
    exact raiseT (n := 2) (fun P hP => by walk_at "r"; exact hP) fun d H' s' hd => kE _ (by unfold sidesB; rw [e]; exact if_neg (by rw [show sideB ([l, m].getD 0 0) ([l, m].getD 1 0) = false from c]; simp)) d H' ((s1.trans s2).trans s') hd
  | true =>
    have c2 : Jv.sidesD (.list [.int l, .int m]) = true := c
    rw [c2]
    walk_at "r"
    refine Jv.r_tupOfL (Jv.sqL_at ep2) fun t ht => ?_
    exact kQ l m (by unfold sidesB; rw [e]; exact if_pos c) c t _ ((s1.trans s2).trans (Jv.same_new ht)) (Same.free (s1.trans s2) ht) upd_same
/-- yes or no, for each word -/
def truB (lines : List Str) (head : Str) (many : Nat) : Except Str (List Bool) := match wordsB lines 3 head many with
  | .error f => .error f
  | .ok ws => if ws.all (fun w => decide (w = Str.ofString "yes" ∨ w = Str.ofString "no")) = true then .ok (ws.map fun w => decide (w = Str.ofString "yes")) else .error (Str.ofString "form")
def sp_read_truths (K : PySem.W.Frag) (C : Addr) : Sp := fun vs H Q E => ∃ (a : Addr) (lines : List Str) (head : Str) (many : Nat), vs = [.ref a, .str head, .int many] ∧ Lns H a lines ∧ many ≤ 5 ∧
  (∀ f, truB lines head many = .error f → ∀ d H', Same H H' → H' d = some (xT 3 f) → E (.ref C) (some d) H') ∧ (∀ bs, truB lines head many = .ok bs → bs.length = many → ∀ t H', Same H H' → H t = none → H' t = some (.tup (bs.map V.bl)) → Q (.ref t) H')
theorem inV_words {w : Str} : inV (.str w) [.str (Str.ofString "yes"), .str (Str.ofString "no")] = decide (w = Str.ofString "yes" ∨ w = Str.ofString "no") := by
  unfold inV
  by_cases a : w = Str.ofString "yes"
  · subst a; simp [eqV]
  · by_cases b : w = Str.ofString "no"
    · subst b; simp [eqV]
    · have a' : ¬ Str.ofString "yes" = w := fun e => a e.symm
      have b' : ¬ Str.ofString "no" = w := fun e => b e.symm
      simp [eqV, a, b, a', b']
theorem ok_read_truths (T : Tx) (O : Ok K mg T) : FnOk P w K mg base (L2.CX P w) 4 T.f_read_truths T.d_read_truths ["lines", "head", "many"] (sp_read_truths K T.C_BadText) := by
  refine O.F_read_truths.okX sc_read_truths (fun vs H Q E h => by obtain ⟨_, _, _, _, rfl, _⟩ := h; rfl) (fun cdv A0 outer s H vs Q E hr h => ?_)
  obtain ⟨a, lines, head, many, rfl, ⟨ha, few, fw0⟩, fm, kE, kQ⟩ := h
  have fw : ∀ x ∈ lines, x.length ≤ 900 := fun x hx => Nat.le_trans (fw0 x hx) (by decide)
  refine ⟨_, (pss_cons (ps_set (i := 3) sc_read_truths.nd rfl (Or.inl rfl) (pe_callS (ok_words_behind T O) (hr.mono (by decide)) (by rfl) O.m_words_behind O.F_words_behind.kp O.b_words_behind (fun σ => passAt (takes_of rfl rfl rfl rfl) σ) (pa_cons (pv 0) (pa_cons pe_int (pa_cons (pv 1) (pa_cons (pv 2) pa_nil))))))
  (pss_cons (ps_if (pt_not (pt_val (pe_callB (r := rAll K) (cr_all rfl) (by rfl) O.z_all (by decide +kernel) (pa_cons (pe_lc (own := [("word", 4)]) (by rfl) sc_read_truths.nd (show PI _ _ _ (iList K _) from pi_list (pv 3)) (blkOk_by (own := [("word", 4)]) (N := ["lines", "head", "many", "words", "word"]) (sc := defScope s_read_truths) (scope := ({ kind := .function, names := [(".0", .local), ("word", .local)], isGenerator := false, isCoroutine := false } : Scope)) (by decide +kernel)) (fun _ _ _ _ _ => (pg_name (i := 4) sc_read_truths.nd rfl (Or.inl rfl))) (fun _ _ _ _ _ => pts_nil) (fun _ _ _ _ _ => (pe_cmpR (r := rIn K false) op_in_seq (pv 4) (pe_tup (pa_cons pe_str (pa_cons pe_str pa_nil))) rfl))) pa_nil)))) (pss_one (ps_raise rfl (takes_of rfl rfl rfl rfl) (pmk_oex O.x_BadText.o O.x_BadText.n O.x_BadText.y (ok_BadTextu_initu T O) (hr.mono (by decide)) O.b_BadTextu_initu .nil pass0 (by rfl) O.m_BadText (pa_cons pe_int (pa_cons pe_str pa_nil))))) pss_nil)
  (pss_one (ps_ret (pe_callTy (r := Jv.rTupOf K) call_tuple_of (by rfl) O.z_tuple (by decide +kernel) (pa_cons (pe_lc (own := [("word", 4)]) (by rfl) sc_read_truths.nd (show PI _ _ _ (iList K _) from pi_list (pv 3)) (blkOk_by (own := [("word", 4)]) (N := ["lines", "head", "many", "words", "word"]) (sc := defScope s_read_truths) (scope := ({ kind := .function, names := [(".0", .local), ("word", .local)], isGenerator := false, isCoroutine := false } : Scope)) (by decide +kernel)) (fun _ _ _ _ _ => (pg_name (i := 4) sc_read_truths.nd rfl (Or.inl rfl))) (fun _ _ _ _ _ => pts_nil) (fun _ _ _ _ _ => (pe_cmpR op_eq (pv 4) pe_str (nomark _)))) pa_nil)))))), ?_⟩
  walk_at "r"
  refine ⟨a, lines, 3, head, many, rfl, ha, by decide, few, fw, ?_⟩
  cases e : wordsB lines 3 head many with
  | error f => exact .inl ⟨f, rfl, kE f (by unfold truB; rw [e])⟩
  | ok ws =>
    obtain ⟨lw, fws⟩ := wordsB_le fw (by decide) e
    refine .inr ⟨ws, rfl, fun p H1 s1 np ep => ?_⟩
    have at_ : ∀ {i : Nat} {v : V}, (ws.map V.str)[i]? = some v → ∃ w, ws[i]? = some w ∧ v = .str w := fun {i v} hv => by
      rw [List.getElem?_map] at hv
      cases e : ws[i]? with
      | none => rw [e] at hv; cases hv
      | some w => rw [e] at hv; cases hv; exact ⟨w, rfl, rfl⟩
    walk_at "r"
    refine Jv.lcFl (xs := ws.map V.str) (i := 3) (by rfl) (Jv.sqL_at ep) (fun i => .bl (decide (ws.getD i Str.empty = Str.ofString "yes" ∨ ws.getD i Str.empty = Str.ofString "no"))) (by rw [List.length_map]; omega) (fun i v H2 hv s2 PP hP => ?_) (fun D H2 s2 hD e2 => ?_)
    · obtain ⟨w, hw, rfl⟩ := at_ hv
      walk_at "r"
      intro t ht
      refine ⟨t, _, rfl, .inr (Jv.sqT_at upd_same), rfl, rfl, ?_⟩
      rw [inV_words]
      have := hP _ (Jv.same_new (u := .tup [.str (Str.ofString "yes"), .str (Str.ofString "no")]) ht)
      rw [List.getD_eq_getElem?_getD, hw] at this
      exact this
    · have f2 : (List.range (ws.map V.str).length).map (fun i => V.bl (decide (ws.getD i Str.empty = Str.ofString "yes" ∨ ws.getD i Str.empty = Str.ofString "no"))) = (ws.map fun w => decide (w = Str.ofString "yes" ∨ w = Str.ofString "no")).map V.bl := by
        rw [List.length_map]
        refine List.ext_getElem? fun i => ?_
        by_cases hi : i < ws.length
        · rw [List.getElem?_map, List.getElem?_range hi, List.getElem?_map, List.getElem?_map, List.getElem?_eq_getElem hi]
          simp only [Option.map_some, List.getD_eq_getElem?_getD, List.getElem?_eq_getElem hi, Option.getD_some]
        · rw [List.getElem?_eq_none (by simp; omega), List.getElem?_eq_none (by simp; omega)]
      rw [f2] at e2
      walk_at "r"
      refine ⟨D, _, rfl, Jv.sqL_at e2, ?_⟩
      rw [show (ws.map fun w => decide (w = Str.ofString "yes" ∨ w = Str.ofString "no")).all id = ws.all fun w => decide (w = Str.ofString "yes" ∨ w = Str.ofString "no") by rw [List.all_map]; rfl]
      cases c : ws.all fun w => decide (w = Str.ofString "yes" ∨ w = Str.ofString "no") with
      | false =>
        walk_at "r"
        exact raiseT (n := 3) (fun P hP => by walk_at "r"; exact hP) fun d H' s' hd => kE _ (by unfold truB; rw [e]; exact if_neg (by rw [c]; simp)) d H' ((s1.trans s2).trans s') hd
      | true =>
        walk_at "r"
        refine Jv.lcFl (xs := ws.map V.str) (i := 3) (by rfl) (Jv.sqL_at (s2 _ _ ep)) (fun i => .bl (decide (ws.getD i Str.empty = Str.ofString "yes"))) (by rw [List.length_map]; omega) (fun i v H3 hv s3 PP hP => ?_) (fun D3 H3 s3 hD3 e3 => ?_)
        · obtain ⟨w, hw, rfl⟩ := at_ hv
          walk_at "r"
          have := hP _ (Same.refl _)
          rw [List.getD_eq_getElem?_getD, hw] at this
          rw [show decide (V.str w = V.str (Str.ofString "yes")) = decide (w = Str.ofString "yes") from decide_eq_decide.mpr ⟨V.str.inj, fun e => by rw [e]⟩]
          exact this
        · have f3 : (List.range (ws.map V.str).length).map (fun i => V.bl (decide (ws.getD i Str.empty = Str.ofString "yes"))) = (ws.map fun w => decide (w = Str.ofString "yes")).map V.bl := by
            rw [List.length_map]
            refine List.ext_getElem? fun i => ?_
            by_cases hi : i < ws.length
            · rw [List.getElem?_map, List.getElem?_range hi, List.getElem?_map, List.getElem?_map, List.getElem?_eq_getElem hi]
              simp only [Option.map_some, List.getD_eq_getElem?_getD, List.getElem?_eq_getElem hi, Option.getD_some]
            · rw [List.getElem?_eq_none (by simp; omega), List.getElem?_eq_none (by simp; omega)]
          rw [f3] at e3
          walk_at "r"
          refine Jv.r_tupOfL (Jv.sqL_at e3) fun t ht => ?_
          exact kQ _ (by unfold truB; rw [e]; exact if_pos c) (by simp [lw]) t _ (((s1.trans s2).trans s3).trans (Jv.same_new ht)) (Same.free ((s1.trans s2).trans s3) ht) upd_same
end
end K07

namespace K07
open PySem PySem.Spec PyProof.Rows L2
/-! ### a couple's line -/
theorem par_le (S : List Nat) : ∀ (l acc : List Nat) (a b : List Nat), TL.par S acc l = some (a, b) → a.length ≤ acc.length + l.length ∧ b.length ≤ l.length
  | [], acc, a, b => fun h => by simp [TL.par] at h
  | c :: r, acc, a, b => fun h => by
    rw [TL.par] at h
    split at h
    · cases h
      refine ⟨by simp, ?_⟩
      rw [List.length_drop]; omega
    · have := par_le S r _ a b h
      simp at this ⊢; omega
def sepC : Str := Str.ofString ": "
theorem cut_le (x : Str) : (Txt.partition x sepC).1.length ≤ x.length ∧ (Txt.partition x sepC).2.2.length ≤ x.length := by
  rw [TL.partition_par x sepC (by decide +kernel)]
  cases e : TL.par (TL.tl sepC) [] (TL.tl x) with
  | none => exact ⟨Nat.le_refl _, Nat.zero_le _⟩
  | some p =>
    obtain ⟨h1, h2⟩ := par_le _ _ _ _ _ e
    have hx := len_list x
    refine ⟨?_, ?_⟩
    · show p.1.toArray.size ≤ _
      rw [List.size_toArray, hx]
      simpa using h1
    · show p.2.toArray.size ≤ _
      rw [List.size_toArray, hx]
      exact h2
theorem spl_sum : ∀ (l acc : List Nat), ((TL.spl [32] 0 acc l).map List.length).sum + (TL.spl [32] 0 acc l).length = acc.length + l.length + 1
  | [], acc => by simp [TL.spl]
  | c :: r, acc => by
    rw [TL.spl]
    split
    · have := spl_sum r []
      simp only [List.map_cons, List.sum_cons, List.length_cons, List.length_nil] at this ⊢
      show acc.length + ((TL.spl [32] 0 [] r).map List.length).sum + ((TL.spl [32] 0 [] r).length + 1) = _
      omega
    · have := spl_sum r (acc ++ [c])
      simp only [List.length_append, List.length_cons, List.length_nil] at this ⊢
      omega
theorem split_sum (x : Str) : ((Txt.split x sepB).map fun w => w.length).sum + (Txt.split x sepB).length = x.length + 1 := by
  have e := TL.split_spl x sepB (by decide +kernel) (TL.kind_ok (by decide +kernel))
  have t : TL.tl sepB = [32] := by decide +kernel
  rw [t] at e
  have h := spl_sum (TL.tl x) []
  have hl : ((Txt.split x sepB).map TL.tl).length = (Txt.split x sepB).length := List.length_map ..
  rw [← e, hl] at h
  have hx : x.length = (TL.tl x).length := len_list x
  rw [List.map_map] at h
  have : (Txt.split x sepB).map (fun w => w.length) = (Txt.split x sepB).map (List.length ∘ TL.tl) := List.map_congr_left fun w _ => len_list w
  rw [this, hx]
  simpa using h
theorem split_len (x : Str) : (Txt.split x sepB).length ≤ x.length + 1 := by have := split_sum x; omega
theorem some_len {ws : List Str} (h : ∀ w ∈ ws, 1 ≤ w.length) : ws.length ≤ (ws.map fun w => w.length).sum := by
  induction ws with
  | nil => simp
  | cons a r ih =>
    have h1 := h a List.mem_cons_self
    have h2 := ih fun w hw => h w (List.mem_cons_of_mem _ hw)
    simp only [List.length_cons, List.map_cons, List.sum_cons]; omega
theorem endF_len {l : List Nat} {z : Int} (h : endF l = some z) : 1 ≤ l.length := by
  cases l with
  | nil => simp [endF, numF] at h
  | cons a r => simp
def endsOf (ws : List Str) : List (Option Int) := ws.map fun w => endF w.cps.toList
theorem ends_few {x : Str} (h : (endsOf (Txt.split x sepB)).any (·.isNone) = false) (hx : x.length ≤ 120) : (Txt.split x sepB).length ≤ 60 := by
  have a := split_sum x
  have b := some_len (ws := Txt.split x sepB) fun w hw => by
    rw [List.any_eq_false] at h
    have := h (endF w.cps.toList) (List.mem_map.mpr ⟨w, hw, rfl⟩)
    cases e : endF w.cps.toList with
    | none => rw [e] at this; exact absurd rfl this
    | some z => rw [len_list]; exact endF_len e
  omega
theorem inV_noneE : ∀ {os : List (Option Int)}, inV .non (os.map endV) = os.any (·.isNone)
  | [] => by simp [inV]
  | o :: r => by
    have ih := inV_noneE (os := r)
    unfold inV at ih ⊢
    rw [List.map_cons, List.any_cons, List.any_cons, ih]
    cases o <;> rfl
theorem flat_ends {os : List (Option Int)} : (os.map endV).all flatV = true := by
  rw [List.all_map, List.all_eq_true]
  intro o _
  cases o <;> rfl
theorem ends_all {os : List (Option Int)} (h : os.any (·.isNone) = false) : os.map endV = (os.map fun o => o.getD 0).map V.int := by
  rw [List.map_map]
  refine List.map_congr_left fun o ho => ?_
  cases o with
  | none =>
    rw [List.any_eq_false] at h
    exact absurd rfl (h _ ho)
  | some n => rfl
def sp_numbers_from : Sp := fun vs H Q _ => ∃ x : Str, vs = [.str x] ∧ x.length ≤ 800 ∧ ∀ p H', Same H H' → H p = none → H' p = some (.lst ((numsOf (Txt.split x sepB)).map numV)) → Q (.ref p) H'
section
variable {P : Program} {w : World} {K : PySem.W.Frag} {mg : Str → Option Value} {base : Heap}
theorem ok_numbers_from (T : Tx) (O : Ok K mg T) : FnOk P w K mg base CX0 3 T.f_numbers_from T.d_numbers_from ["text"] sp_numbers_from := by
  refine O.F_numbers_from.ok sc_numbers_from (fun vs H Q E h => by obtain ⟨_, rfl, _⟩ := h; rfl) (fun cdv A0 outer s H vs Q E hr h => ?_)
  obtain ⟨x, rfl, few, q⟩ := h
  refine ⟨_, (pss_one (ps_ret (pe_lc (own := [("word", 1)]) (by rfl) sc_numbers_from.nd (show PI _ _ _ (iList K _) from pi_list (pe_split (pv 0) pe_str)) (blkOk_by (own := [("word", 1)]) (N := ["text", "word"]) (sc := defScope s_numbers_from) (scope := ({ kind := .function, names := [(".0", .local), ("word", .local), ("number_from", .globalImplicit)], isGenerator := false, isCoroutine := false } : Scope)) (by decide +kernel)) (fun _ _ _ _ _ => (pg_name (i := 1) sc_numbers_from.nd rfl (Or.inl rfl))) (fun _ _ _ _ _ => pts_nil) (fun _ _ _ _ _ => (pe_call (ok_number_from T O) (hr.mono (by decide)) (by rfl) O.m_number_from O.F_number_from.kp O.b_number_from .nil pass0 (pa_cons (pv 1) pa_nil)))))), ?_⟩
  walk_at "r"
  refine Jv.lcFe fun R hR => ?_
  refine Jv.r_m1 ?_
  walk_at "r"
  refine ⟨⟨_, rfl⟩, ?_⟩
  walk_at "r"
  refine ⟨_, _, rfl, rfl, by decide +kernel, Jv.small_of (by omega), fun p hp => ?_⟩
  have sl := split_len x
  have s1 := Jv.same_new (u := .lst ((Txt.split x sepB).map V.str)) hp
  refine hR p ((Txt.split x sepB).map V.str) (fun i => numV (numF ((Txt.split x sepB).getD i Str.empty).cps.toList)) _ (Jv.sqL_at upd_same) (by rw [List.length_map]; omega) (fun i v H2 hv s2 PP hP => ?_) (fun D H2 s2 hD e2 => ?_)
  · have hi : i < (Txt.split x sepB).length := by
      have := (List.getElem?_eq_some_iff.mp hv).1
      rw [List.length_map] at this
      exact this
    rw [List.getElem?_map, List.getElem?_eq_getElem hi] at hv
    cases hv
    walk_at "r"
    refine ⟨_, rfl, Nat.le_trans (split_le (List.getElem_mem hi)) (by omega), fun H3 s3 => ?_⟩
    have := hP _ s3
    rw [List.getD_eq_getElem?_getD, List.getElem?_eq_getElem hi] at this
    exact this
  · have f2 : (List.range ((Txt.split x sepB).map V.str).length).map (fun i => numV (numF ((Txt.split x sepB).getD i Str.empty).cps.toList)) = (numsOf (Txt.split x sepB)).map numV := by
      unfold numsOf
      rw [List.length_map]
      refine List.ext_getElem? fun i => ?_
      by_cases hi : i < (Txt.split x sepB).length
      · rw [List.getElem?_map, List.getElem?_range hi, List.getElem?_map, List.getElem?_map, List.getElem?_eq_getElem hi]
        simp only [Option.map_some, List.getD_eq_getElem?_getD, List.getElem?_eq_getElem hi, Option.getD_some]
      · rw [List.getElem?_eq_none (by simp; omega), List.getElem?_eq_none (by simp; omega)]
    rw [f2] at e2
    walk_at "r"
    exact q D H2 (s1.trans s2) (Same.free s1 hD) e2
end
end K07

namespace K07
open PySem PySem.Spec PyProof.Rows L2
/-! ### a couple's ends -/
def kindsOf (x : Str) : List (Option Nat) := numsOf (Txt.split (Txt.partition x sepC).1 sepB)
def endsIn (x : Str) : List (Option Int) := endsOf (Txt.split (Txt.partition x sepC).2.2 sepB)
def intsIn (x : Str) : List Int := (endsIn x).map fun o => o.getD 0
def endsB (lines : List Str) (n c0 c1 L : Nat) : Except Str (List Int) :=
  if lines.length < n then .error (Str.ofString "missing") else
    if (kindsOf (lines.getD (n - 1) Str.empty)).length ≠ 2 ∨ (kindsOf (lines.getD (n - 1) Str.empty)).any (·.isNone) = true ∨ (endsIn (lines.getD (n - 1) Str.empty)).any (·.isNone) = true then .error (Str.ofString "form") else
      if (kindsOf (lines.getD (n - 1) Str.empty)).map (fun o => ((o.getD 0 : Nat) : Int)) ≠ [(c0 : Int), (c1 : Int)] then .error (Str.ofString "couple") else
        if (intsIn (lines.getD (n - 1) Str.empty)).all (fun z => decide (-(L : Int) ≤ z ∧ z ≤ L)) = false then .error (Str.ofString "range") else
          if (intsIn (lines.getD (n - 1) Str.empty)).Pairwise (· < ·) then .ok (intsIn (lines.getD (n - 1) Str.empty)) else .error (Str.ofString "order")
def sp_read_ends (K : PySem.W.Frag) (C : Addr) : Sp := fun vs H Q E => ∃ (a : Addr) (lines : List Str) (n c0 c1 L : Nat) (vc : V), vs = [.ref a, .int n, vc, .int L] ∧ Lns H a lines ∧ 1 ≤ n ∧ Jv.Dv K H vc (.tuple [.int c0, .int c1]) ∧
  (∀ f, endsB lines n c0 c1 L = .error f → ∀ d H', Same H H' → H' d = some (xT n f) → E (.ref C) (some d) H') ∧ (∀ zs, endsB lines n c0 c1 L = .ok zs → ∀ p H', Same H H' → H p = none → H' p = some (.lst (zs.map V.int)) → Q (.ref p) H')
section
variable {P : Program} {w : World} {K : PySem.W.Frag} {mg : Str → Option Value} {base : Heap}
theorem ok_read_ends (T : Tx) (O : Ok K mg T) : FnOk P w K mg base (L2.CX P w) 4 T.f_read_ends T.d_read_ends ["lines", "number", "couple", "ladder"] (sp_read_ends K T.C_BadText) := by
  refine O.F_read_ends.okX sc_read_ends (fun vs H Q E h => by obtain ⟨_, _, _, _, _, _, _, rfl, _⟩ := h; rfl) (fun cdv A0 outer s H vs Q E hr h => ?_)
  obtain ⟨a, lines, n, c0, c1, L, vc, rfl, ⟨ha, few, fw⟩, n1, hvc, kE, kQ⟩ := h
  refine ⟨_, (pss_cons (ps_if (pt_cmpR op_gt (pv 1) (pe_callB (r := Jv.rLenK K) Jv.cr_len (by rfl) O.z_len (by decide +kernel) (pa_cons (pv 0) pa_nil)) (nomark _)) (pss_one (ps_raise rfl (takes_of rfl rfl rfl rfl) (pmk_oex O.x_BadText.o O.x_BadText.n O.x_BadText.y (ok_BadTextu_initu T O) (hr.mono (by decide)) O.b_BadTextu_initu .nil pass0 (by rfl) O.m_BadText (pa_cons (pv 1) (pa_cons pe_str pa_nil))))) pss_nil)
  (pss_cons (ps_asg (pe_partition (pe_ix (r := rIxL K) ix_list (pv 0) (pe_op op_sub (pv 1) pe_int) (fun _ _ => rfl)) pe_str) (pg_tup rfl (pgs_cons (pg_name (i := 4) sc_read_ends.nd rfl (Or.inl rfl)) (pgs_cons (pg_name (i := 5) sc_read_ends.nd rfl (Or.inl rfl)) (pgs_cons (pg_name (i := 6) sc_read_ends.nd rfl (Or.inl rfl)) pgs_nil)))))
  (pss_cons (ps_set (i := 7) sc_read_ends.nd rfl (Or.inl rfl) (pe_call (ok_numbers_from T O) (hr.mono (by decide)) (by rfl) O.m_numbers_from O.F_numbers_from.kp O.b_numbers_from .nil pass0 (pa_cons (pv 4) pa_nil)))
  (pss_cons (ps_setLc (i := 8) (own := [("word", 9)]) (by rfl) sc_read_ends.nd rfl rfl (sw_true rfl rfl rfl (by decide +kernel)) (show PI _ _ _ (iList K _) from pi_list (pe_split (pv 6) pe_str)) (blkOk_by (own := [("word", 9)]) (N := ["lines", "number", "couple", "ladder", "head", "_", "tail", "kinds", "ends", "word", "end"]) (sc := defScope s_read_ends) (scope := ({ kind := .function, names := [(".0", .local), ("word", .local), ("end_from", .globalImplicit)], isGenerator := false, isCoroutine := false } : Scope)) (by decide +kernel)) (fun _ _ _ _ _ => (pg_name (i := 9) sc_read_ends.nd rfl (Or.inl rfl))) (fun _ _ _ _ _ => pts_nil) (fun _ _ _ _ _ => (pe_call (ok_end_from T O) (hr.mono (by decide)) (by rfl) O.m_end_from O.F_end_from.kp O.b_end_from .nil pass0 (pa_cons (pv 9) pa_nil))))
  (pss_cons (ps_if (PW.pt (pw_or (pt_cmpR op_ne (pe_callB (r := Jv.rLenK K) Jv.cr_len (by rfl) O.z_len (by decide +kernel) (pa_cons (pv 7) pa_nil)) pe_int (nomark _)) (pw_or (pt_cmpR (r := rIn K false) op_in_seq pe_non (pv 7) rfl) (pw_or1 (pt_cmpR (r := rIn K false) op_in_seq pe_non (pv 8) rfl))))) (pss_one (ps_raise rfl (takes_of rfl rfl rfl rfl) (pmk_oex O.x_BadText.o O.x_BadText.n O.x_BadText.y (ok_BadTextu_initu T O) (hr.mono (by decide)) O.b_BadTextu_initu .nil pass0 (by rfl) O.m_BadText (pa_cons (pv 1) (pa_cons pe_str pa_nil))))) pss_nil)
  (pss_cons (ps_if (pt_cmpR (r := rNeD K) (op_neD hr.units) (pe_callTy (r := Jv.rTupOf K) call_tuple_of (by rfl) O.z_tuple (by decide +kernel) (pa_cons (pv 7) pa_nil)) (pv 2) (nomark _)) (pss_one (ps_raise rfl (takes_of rfl rfl rfl rfl) (pmk_oex O.x_BadText.o O.x_BadText.n O.x_BadText.y (ok_BadTextu_initu T O) (hr.mono (by decide)) O.b_BadTextu_initu .nil pass0 (by rfl) O.m_BadText (pa_cons (pv 1) (pa_cons pe_str pa_nil))))) pss_nil)
  (pss_cons (ps_if (pt_not (pt_val (pe_callB (r := rAll K) (cr_all rfl) (by rfl) O.z_all (by decide +kernel) (pa_cons (pe_lc (own := [("end", 10)]) (by rfl) sc_read_ends.nd (show PI _ _ _ (iList K _) from pi_list (pv 8)) (blkOk_by (own := [("end", 10)]) (N := ["lines", "number", "couple", "ladder", "head", "_", "tail", "kinds", "ends", "word", "end"]) (sc := defScope s_read_ends) (scope := ({ kind := .function, names := [(".0", .local), ("end", .local), ("ladder", .free)], isGenerator := false, isCoroutine := false } : Scope)) (by decide +kernel)) (fun _ _ _ _ _ => (pg_name (i := 10) sc_read_ends.nd rfl (Or.inl rfl))) (fun _ _ _ _ _ => pts_nil) (fun _ _ _ _ _ => (pe_chain op_le op_le (pe_un un_neg (pv 3)) (pv 10) (pv 3)))) pa_nil)))) (pss_one (ps_raise rfl (takes_of rfl rfl rfl rfl) (pmk_oex O.x_BadText.o O.x_BadText.n O.x_BadText.y (ok_BadTextu_initu T O) (hr.mono (by decide)) O.b_BadTextu_initu .nil pass0 (by rfl) O.m_BadText (pa_cons (pv 1) (pa_cons pe_str pa_nil))))) pss_nil)
  (pss_cons (ps_if (pt_cmpR (r := rNeD K) (op_neD hr.units) (pv 8) (pe_callB (r := rSortedSet w) (cr_sortedSet rfl) (by rfl) O.z_sorted (by decide +kernel) (pa_cons (pe_callTy (r := Jv.rSetI K w) (Jv.cr_setI rfl) (by rfl) O.z_set (by decide +kernel) (pa_cons (pv 8) pa_nil)) pa_nil)) (nomark _)) (pss_one (ps_raise rfl (takes_of rfl rfl rfl rfl) (pmk_oex O.x_BadText.o O.x_BadText.n O.x_BadText.y (ok_BadTextu_initu T O) (hr.mono (by decide)) O.b_BadTextu_initu .nil pass0 (by rfl) O.m_BadText (pa_cons (pv 1) (pa_cons pe_str pa_nil))))) pss_nil)
  (pss_one (ps_ret (pv 8))))))))))), ?_⟩
  walk_at "r"
  refine Jv.r_dec (fun h0 => ?_) (fun h0 => ?_)
  · rw [List.length_map] at h0
    exact raiseT (fun P hP => by walk_at "r"; exact hP) (kE _ (if_pos (by omega)))
  rw [List.length_map] at h0
  have hn : n - 1 < lines.length := by omega
  refine Jv.r_next ?_
  obtain ⟨x, hx⟩ : ∃ x, x = lines[n - 1] := ⟨_, rfl⟩
  have eG : lines.getD (n - 1) Str.empty = x := by rw [hx, List.getD_eq_getElem?_getD, List.getElem?_eq_getElem hn]; rfl
  have fx : x.length ≤ 120 := by rw [hx]; exact fw _ (List.getElem_mem hn)
  have eB : endsB lines n c0 c1 L = if (kindsOf x).length ≠ 2 ∨ (kindsOf x).any (·.isNone) = true ∨ (endsIn x).any (·.isNone) = true then .error (Str.ofString "form") else
      if (kindsOf x).map (fun o => ((o.getD 0 : Nat) : Int)) ≠ [(c0 : Int), (c1 : Int)] then .error (Str.ofString "couple") else
        if (intsIn x).all (fun z => decide (-(L : Int) ≤ z ∧ z ≤ L)) = false then .error (Str.ofString "range") else
          if (intsIn x).Pairwise (· < ·) then .ok (intsIn x) else .error (Str.ofString "order") := by
    unfold endsB
    rw [if_neg (by omega), eG]
  obtain ⟨cl1, cl2⟩ := cut_le x
  walk_at "r"
  refine Jv.r_m1 ?_
  walk_at "r"
  refine Jv.r_ixL (Jv.sqL_at ha) (Jv.at_i (v := .str x) (by omega) (by rw [show ((n : Int) - 1).toNat = n - 1 by omega, List.getElem?_map, List.getElem?_eq_getElem hn, hx]; rfl)) ?_
  refine ⟨⟨_, rfl⟩, ?_⟩
  walk_at "r"
  refine ⟨_, _, rfl, rfl, by decide +kernel, Jv.small_of (by omega), fun p hp => ?_⟩
  have s1 := Jv.same_new (u := .tup [.str (Txt.partition x sepC).1, .str (Txt.partition x sepC).2.1, .str (Txt.partition x sepC).2.2]) hp
  refine Jv.r_gtup (Jv.sqT_at upd_same) rfl ?_
  generalize e1 : upd H p _ = H1
  have s1' : Same H H1 := by rw [← e1]; exact s1
  clear e1 s1
  walk_at "r"
  refine ⟨_, rfl, by show (Txt.partition x sepC).1.length ≤ 800; omega, fun k H2 s2 nk ek => ?_⟩
  replace ek : H2 k = some (.lst ((kindsOf x).map numV)) := ek
  walk_at "r"
  refine Jv.lcFe fun R hR => ?_
  refine Jv.r_m1 ?_
  walk_at "r"
  refine ⟨⟨_, rfl⟩, ?_⟩
  walk_at "r"
  refine ⟨_, _, rfl, rfl, by decide +kernel, Jv.small_of (by show (Txt.partition x sepC).2.2.length + 2 ≤ 1000; omega), fun p3 hp3 => ?_⟩
  have sl := split_len (Txt.partition x sepC).2.2
  have s3 := Jv.same_new (u := .lst ((Txt.split (Txt.partition x sepC).2.2 sepB).map V.str)) hp3
  refine hR p3 ((Txt.split (Txt.partition x sepC).2.2 sepB).map V.str) (fun i => endV (endF ((Txt.split (Txt.partition x sepC).2.2 sepB).getD i Str.empty).cps.toList)) _ (Jv.sqL_at upd_same) (by rw [List.length_map]; omega) (fun i v H4 hv s4 PP hP => ?_) (fun D H4 s4 hD e4 => ?_)
  · have hi : i < (Txt.split (Txt.partition x sepC).2.2 sepB).length := by
      have := (List.getElem?_eq_some_iff.mp hv).1
      rw [List.length_map] at this
      exact this
    rw [List.getElem?_map, List.getElem?_eq_getElem hi] at hv
    cases hv
    walk_at "r"
    refine ⟨_, rfl, Nat.le_trans (split_le (List.getElem_mem hi)) (by omega), fun H5 s5 => ?_⟩
    have := hP _ s5
    rw [List.getD_eq_getElem?_getD, List.getElem?_eq_getElem hi] at this
    exact this
  have f4 : (List.range ((Txt.split (Txt.partition x sepC).2.2 sepB).map V.str).length).map (fun i => endV (endF ((Txt.split (Txt.partition x sepC).2.2 sepB).getD i Str.empty).cps.toList)) = (endsIn x).map endV := by
    unfold endsIn endsOf
    rw [List.length_map]
    refine List.ext_getElem? fun i => ?_
    by_cases hi : i < (Txt.split (Txt.partition x sepC).2.2 sepB).length
    · rw [List.getElem?_map, List.getElem?_range hi, List.getElem?_map, List.getElem?_map, List.getElem?_eq_getElem hi]
      simp only [Option.map_some, List.getD_eq_getElem?_getD, List.getElem?_eq_getElem hi, Option.getD_some]
    · rw [List.getElem?_eq_none (by simp; omega), List.getElem?_eq_none (by simp; omega)]
  rw [f4] at e4
  have s14 := (s1'.trans s2).trans (s3.trans s4)
  have hD0 : H D = none := Same.free ((s1'.trans s2).trans s3) hD
  have ek4 := s4 _ _ (s3 _ _ ek)
  clear s4 s3 hp3 hR f4
  walk_at "r"
  rw [List.length_map]
  by_cases cl : (kindsOf x).length = 2
  rotate_left
  · rw [decide_eq_false (fun e => cl (by have := V.int.inj e; omega))]
    walk_at "r"
    exact raiseT (fun P hP => by walk_at "r"; exact hP) fun d H' s' hd => kE _ (eB.trans (if_pos (.inl cl))) d H' (s14.trans s') hd
  rw [decide_eq_true (show V.int ((kindsOf x).length : Nat) = V.int 2 by rw [cl]; rfl)]
  walk_at "r"
  refine ⟨k, _, rfl, .inl (Jv.sqL_at ek4), rfl, flat_nums, ?_⟩
  rw [inV_none]
  cases ck : (kindsOf x).any (·.isNone) with
  | true =>
    walk_at "r"
    exact raiseT (fun P hP => by walk_at "r"; exact hP) fun d H' s' hd => kE _ (eB.trans (if_pos (.inr (.inl ck)))) d H' (s14.trans s') hd
  | false =>
  walk_at "r"
  refine ⟨D, _, rfl, .inl (Jv.sqL_at e4), rfl, flat_ends, ?_⟩
  rw [inV_noneE]
  cases ce : (endsIn x).any (·.isNone) with
  | true =>
    walk_at "r"
    exact raiseT (fun P hP => by walk_at "r"; exact hP) fun d H' s' hd => kE _ (eB.trans (if_pos (.inr (.inr ce)))) d H' (s14.trans s') hd
  | false =>
  have eB2 := eB.trans (if_neg (by simp [cl, ck, ce]))
  rw [nums_all ck] at ek4
  rw [ends_all ce] at e4
  have few60 := ends_few ce (by omega)
  have lenI : (intsIn x).length ≤ 60 := by
    unfold intsIn endsIn endsOf
    rw [List.length_map, List.length_map]; exact few60
  replace e4 : H4 D = some (.lst ((intsIn x).map V.int)) := e4
  obtain ⟨ks, hks⟩ : ∃ ks, ks = (kindsOf x).map (fun o => ((o.getD 0 : Nat) : Int)) := ⟨_, rfl⟩
  replace ek4 : H4 k = some (.lst (ks.map V.int)) := by rw [ek4, hks, List.map_map, List.map_map]; rfl
  rw [← hks] at eB2
  walk_at "r"
  refine Jv.r_tupOfL (Jv.sqL_at ek4) fun t ht => ?_
  have s5 := Jv.same_new (u := .tup (ks.map V.int)) ht
  walk_at "r"
  refine ⟨.tuple (ks.map .int), .tuple ([(c0 : Int), (c1 : Int)].map .int), (Jv.Dv.tup (Jv.sqT_at upd_same) (Jv.dv_ints _)).dp, (hvc.same (s14.trans s5)).dp, Jv.shapedT _, Jv.shapedT _, ?_⟩
  rw [Jv.eqvT]
  by_cases cc : ks = [(c0 : Int), (c1 : Int)]
  rotate_left
  · rw [decide_eq_false cc]
    walk_at "r"
    exact raiseT (fun P hP => by walk_at "r"; exact hP) fun d H' s' hd => kE _ (eB2.trans (if_pos cc)) d H' ((s14.trans s5).trans s') hd
  rw [decide_eq_true cc]
  have eB3 := eB2.trans (if_neg (by simp [cc]))
  have e5 := s5 _ _ e4
  replace hD0 := hD0
  have s15 := s14.trans s5
  generalize upd H4 t (.tup (ks.map V.int)) = H5 at s5 e5 s15 ⊢
  walk_at "r"
  have at_ : ∀ {i : Nat} {v : V}, ((intsIn x).map V.int)[i]? = some v → ∃ z, (intsIn x)[i]? = some z ∧ v = .int z := fun {i v} hv => by
    rw [List.getElem?_map] at hv
    cases e : (intsIn x)[i]? with
    | none => rw [e] at hv; cases hv
    | some w => rw [e] at hv; cases hv; exact ⟨w, rfl, rfl⟩
  refine Jv.lcFl (xs := (intsIn x).map V.int) (i := 8) (by rfl) (Jv.sqL_at e5) (fun i => .bl (decide (-(L : Int) ≤ (intsIn x).getD i 0 ∧ (intsIn x).getD i 0 ≤ L))) (by rw [List.length_map]; omega) (fun i v H6 hv s6 PP hP => ?_) (fun D6 H6 s6 hD6 e6 => ?_)
  · obtain ⟨z, hz, rfl⟩ := at_ hv
    have := hP _ (Same.refl _)
    rw [List.getD_eq_getElem?_getD, hz] at this
    replace this : PP (V.bl (decide (-(L : Int) ≤ z ∧ z ≤ L))) H6 := this
    walk_at "r"
    refine Jv.r_dec (fun z1 => ?_) (fun z1 => ?_)
    · walk_at "r"
      rw [show decide (-(L : Int) ≤ z ∧ z ≤ L) = decide (z ≤ (L : Int)) from decide_eq_decide.mpr ⟨fun h => h.2, fun h => ⟨z1, h⟩⟩] at this
      exact this
    · rw [decide_eq_false (fun h => z1 h.1)] at this
      exact this
  have f6 : (List.range ((intsIn x).map V.int).length).map (fun i => V.bl (decide (-(L : Int) ≤ (intsIn x).getD i 0 ∧ (intsIn x).getD i 0 ≤ L))) = ((intsIn x).map fun z => decide (-(L : Int) ≤ z ∧ z ≤ L)).map V.bl := by
    rw [List.length_map]
    refine List.ext_getElem? fun i => ?_
    by_cases hi : i < (intsIn x).length
    · rw [List.getElem?_map, List.getElem?_range hi, List.getElem?_map, List.getElem?_map, List.getElem?_eq_getElem hi]
      simp only [Option.map_some, List.getD_eq_getElem?_getD, List.getElem?_eq_getElem hi, Option.getD_some]
    · rw [List.getElem?_eq_none (by simp; omega), List.getElem?_eq_none (by simp; omega)]
  rw [f6] at e6
  walk_at "r"
  refine ⟨D6, _, rfl, Jv.sqL_at e6, ?_⟩
  rw [show ((intsIn x).map fun z => decide (-(L : Int) ≤ z ∧ z ≤ L)).all id = (intsIn x).all fun z => decide (-(L : Int) ≤ z ∧ z ≤ L) by rw [List.all_map]; rfl]
  cases cr : (intsIn x).all fun z => decide (-(L : Int) ≤ z ∧ z ≤ L) with
  | false =>
    walk_at "r"
    exact raiseT (fun P hP => by walk_at "r"; exact hP) fun d H' s' hd => kE _ (eB3.trans (if_pos cr)) d H' ((s15.trans s6).trans s') hd
  | true =>
  have eB4 := eB3.trans (if_neg (by rw [cr]; simp))
  have e6' := s6 _ _ e5
  walk_at "r"
  refine ⟨D, intsIn x, rfl, .inl (Jv.sqL_at e6'), by omega, fun p7 c7 hp7 hc7 => ?_⟩
  walk_at "r"
  refine ⟨p7, _, c7, rfl, upd_same, by omega, fun ns p8 pw mem ln hp8 => ?_⟩
  have s8 := (Jv.same_new (u := SetO w p7 (fun j => decide (j ∈ intsIn x)) c7) hp7).trans (Jv.same_new (u := .lst (ns.map V.int)) hp8)
  refine ⟨.list ((intsIn x).map .int), .list (ns.map .int), (Jv.Dv.lst (s8 _ _ e6') (Jv.dv_ints _)).dp, (Jv.Dv.lst upd_same (Jv.dv_ints _)).dp, Jv.shapedL _, Jv.shapedL _, ?_⟩
  rw [Jv.eqvL]
  by_cases cp : (intsIn x).Pairwise (· < ·)
  · have en : intsIn x = ns := Jv.sorted_ext cp pw fun n => by rw [mem n, decide_eq_true_iff]
    rw [decide_eq_true en]
    walk_at "r"
    exact kQ _ (eB4.trans (if_pos cp)) D _ ((s15.trans s6).trans s8) hD0 (s8 _ _ e6')
  · rw [decide_eq_false (show ¬ intsIn x = ns from fun e => cp (by rw [e]; exact pw))]
    walk_at "r"
    exact raiseT (fun P hP => by walk_at "r"; exact hP) fun d H' s' hd => kE _ (eB4.trans (if_neg cp)) d H' (((s15.trans s6).trans s8).trans s') hd
end
end K07

namespace K07
open PySem PySem.Spec PyProof.Rows L2
/-! ### the text of a goal -/
def yesT (b : Bool) : Str := if b = true then Str.ofString "yes" else Str.ofString "no"
def sp_yes : Sp := fun vs H Q _ => ∃ b : Bool, vs = [.bl b] ∧ Q (.str (yesT b)) H
section
variable {P : Program} {w : World} {K : PySem.W.Frag} {mg : Str → Option Value} {base : Heap}
theorem ok_yes_or_no (T : Tx) (O : Ok K mg T) : FnOk P w K mg base CX0 1 T.f_yes_or_no T.d_yes_or_no ["truth"] sp_yes := by
  refine O.F_yes_or_no.ok sc_yes_or_no (fun vs H Q E h => by obtain ⟨_, rfl, _⟩ := h; rfl) (fun cdv A0 outer s H vs Q E hr h => ?_)
  obtain ⟨b, rfl, q⟩ := h
  refine ⟨_, (pss_one (ps_ret (pe_ifExp (pt_truth (pv 0) (by intro _; rfl)) pe_str pe_str))), ?_⟩
  cases b with
  | true =>
    walk_at "r"
    refine ⟨true, rfl, ?_⟩
    walk_at "r"
    exact q
  | false =>
    walk_at "r"
    refine ⟨false, rfl, ?_⟩
    walk_at "r"
    exact q
theorem ok_Lyes (T : Tx) (O : Ok K mg T) : FnOk P w K mg base CX0 1 T.f_Lyes T.d_Lyes ["_law_truth"] sp_yes := by
  refine O.F_Lyes.ok sc_Lyes (fun vs H Q E h => by obtain ⟨_, rfl, _⟩ := h; rfl) (fun cdv A0 outer s H vs Q E hr h => ?_)
  obtain ⟨b, rfl, q⟩ := h
  refine ⟨_, (pss_one (ps_ret (pe_ifExp (pt_truth (pv 0) (by intro _; rfl)) pe_str pe_str))), ?_⟩
  cases b with
  | true =>
    walk_at "r"
    refine ⟨true, rfl, ?_⟩
    walk_at "r"
    exact q
  | false =>
    walk_at "r"
    refine ⟨false, rfl, ?_⟩
    walk_at "r"
    exact q
end
end K07

namespace K07
open PySem PySem.Spec PyProof.Rows L2
/-! ### a whole text -/
def sp_couples_of (K : PySem.W.Frag) : Sp := fun vs H Q _ => ∃ sd, ∃ p q : Nat, vs = [sd] ∧ Jv.Dv K H sd (.tuple [.int p, .int q]) ∧ (p ≤ 20 ∧ q ≤ 20) ∧ ∀ r refs H', Same H H' → H' r = some (.tup refs) → Jv.Tups H' refs (Jv.prs p q) → Q (.ref r) H'
/-- the couples' lines in their order: each behind the rows that are there -/
def foldB (lines : List Str) (L : Nat) : Nat → List (Nat × Nat) → List (List (List Int)) → Except (Nat × Str) (List (List (List Int)))
  | _, [], R => .ok R
  | n, (e, w) :: cs, R => match endsB lines (n + 1) e w L with
    | .error f => .error (n + 1, f)
    | .ok zs => foldB lines L (n + 1) cs (R.modify e (· ++ [zs]))
def cpN (p q : Nat) : List (Nat × Nat) := (List.range p).flatMap fun i => (List.range q).map fun j => (i, j)
structure Read where
  l : Nat
  rows : List (List (List Int))
  ks : List Bool
/-- what a text reads as, or its first fault -/
def goalB (lines : List Str) : Except (Nat × Str) Read := match ladB lines with
  | .error f => .error (1, f)
  | .ok l => match sidesB lines with
    | .error f => .error (2, f)
    | .ok (p, q) => match truB lines (Str.ofString "knows") 2 with
      | .error f => .error (3, f)
      | .ok ks => match foldB lines l 3 (cpN p q) (List.replicate p []) with
        | .error f => .error f
        | .ok R => if 3 + p * q < lines.length then .error (4 + p * q, Str.ofString "more") else .ok ⟨l, R, ks⟩
/-- new lists of lists of ends in a list; one of them grows in place -/
structure Wn (K : PySem.W.Frag) (H : Hp) (D : Addr) (As : List Addr) (R : List (List (List Int))) : Prop where
  len : As.length = R.length
  nd : As.Nodup
  nD : D ∉ As
  hD : H D = some (.lst (As.map V.ref))
  at_ : ∀ (k : Nat) b rows, As[k]? = some b → R[k]? = some rows → ∃ vs, H b = some (.lst vs) ∧ Jv.DvAll K (Jv.hide (D :: As) H) vs (rows.map fun zs => .list (zs.map PyData.int))
theorem Wn.same {K : PySem.W.Frag} {H H' : Hp} {D : Addr} {As : List Addr} {R : List (List (List Int))} (h : Wn K H D As R) (s : Same H H') : Wn K H' D As R :=
  ⟨h.len, h.nd, h.nD, s _ _ h.hD, fun k b rows e1 e2 => let ⟨vs, h1, h2⟩ := h.at_ k b rows e1 e2; ⟨vs, s _ _ h1, h2.same (Jv.hide_same s)⟩⟩
theorem Wn.put {K : PySem.W.Frag} {H : Hp} {D b : Addr} {As : List Addr} {R : List (List (List Int))} {d : Nat} {vs : List V} {v : V} {zs : List Int} {rows : List (List Int)} (h : Wn K H D As R) (hb : As[d]? = some b) (hr : R[d]? = some rows) (hv : H b = some (.lst vs))
    (dv : Jv.Dv K (Jv.hide (D :: As) H) v (.list (zs.map PyData.int))) : Wn K (upd H b (.lst (vs ++ [v]))) D As (R.modify d (· ++ [zs])) := by
  have mb : b ∈ As := List.mem_of_getElem? hb
  have nb : D ≠ b := fun z => h.nD (by rw [z]; exact mb)
  have hid : Jv.hide (D :: As) (upd H b (.lst (vs ++ [v]))) = Jv.hide (D :: As) H := by
    funext c
    unfold Jv.hide
    by_cases m : c ∈ D :: As
    · rw [if_pos m, if_pos m]
    · rw [if_neg m, if_neg m, upd_ne (fun z => m (by rw [z]; exact List.mem_cons_of_mem _ mb))]
  refine ⟨by rw [List.length_modify]; exact h.len, h.nd, h.nD, by rw [upd_ne nb]; exact h.hD, fun k b' rows' e1 e2 => ?_⟩
  rw [hid]
  by_cases hk : k = d
  · subst hk
    rw [hb] at e1
    cases e1
    rw [List.getElem?_modify, hr] at e2
    simp only [if_true, Option.map_eq_map, Option.map_some] at e2
    cases e2
    obtain ⟨ws, h1, h2⟩ := h.at_ k b rows hb hr
    rw [hv] at h1
    cases h1
    refine ⟨_, upd_same, ?_⟩
    rw [List.map_append]
    exact Jv.DvAll.snoc dv h2
  · rw [List.getElem?_modify] at e2
    have nk : ¬ d = k := fun z => hk z.symm
    have e2 : R[k]? = some rows' := by simpa [nk] using e2
    have n : b' ≠ b := fun z => by
      subst z
      have h1 := (List.getElem?_eq_some_iff.mp hb).1
      have h2 := (List.getElem?_eq_some_iff.mp e1).1
      have h3 := (List.getElem?_eq_some_iff.mp hb).2
      have h4 := (List.getElem?_eq_some_iff.mp e1).2
      exact hk ((List.getElem_inj h.nd).mp (h4.trans h3.symm))
    obtain ⟨ws, h1, h2⟩ := h.at_ k b' rows' e1 e2
    exact ⟨ws, by rw [upd_ne n]; exact h1, h2⟩
section
variable {P : Program} {w : World} {K : PySem.W.Frag} {mg : Str → Option Value} {base : Heap}
theorem ok_couples_of (T : Tx) (O : Ok K mg T) : FnOk P w K mg base CX0 1 T.f_couples_of T.d_couples_of ["sides"] (sp_couples_of K) := by
  refine O.F_couples_of.ok sc_couples_of (fun vs H Q E h => by obtain ⟨_, _, _, rfl, _⟩ := h; rfl) (fun cdv A outer s H vs Q E hr h => ?_)
  obtain ⟨sd, p, q, rfl, hs, ⟨p1, q1⟩, k⟩ := h
  refine ⟨_, (pss_one (ps_ret (pe_callTy (r := Jv.rTupOf K) call_tuple_of (by rfl) O.z_tuple (by decide +kernel) (pa_cons (pe_lc2 (own := [("east", 1), ("west", 2)]) (vs1 := [2]) (by rfl) sc_couples_of.nd (pi_range1 (by rfl) O.z_range (pa_cons (pe_ix (r := rIx K) ix_seq (pv 0) (pe_glob (v := .int (0)) (by rfl) O.c_EAST ⟨_, rfl⟩) (fun _ _ => rfl)) pa_nil)) (blkOk_by (own := [("east", 1), ("west", 2)]) (N := ["sides", "east", "west"]) (sc := defScope s_couples_of) (by decide +kernel)) (by decide) (fun _ _ _ _ _ => (pg_name (i := 1) sc_couples_of.nd rfl (Or.inl rfl))) (fun _ _ _ _ _ => pts_nil) (fun _ _ _ _ _ => (pi_range1 (by rfl) O.z_range (pa_cons (pe_ix (r := rIx K) ix_seq (pv 0) (pe_glob (v := .int (1)) (by rfl) O.c_WEST ⟨_, rfl⟩) (fun _ _ => rfl)) pa_nil))) (fun _ _ _ _ _ => (pg_name (i := 2) sc_couples_of.nd rfl (Or.inl rfl))) (fun _ _ _ _ _ => pts_nil) (fun _ _ _ _ _ => (pe_tup (pa_cons (pv 1) (pa_cons (pv 2) pa_nil))))) pa_nil)))), ?_⟩
  obtain ⟨ss, skS, alS⟩ := hs.sk rfl
  obtain rfl := Jv.dv_intsV (ns := [(p : Int), (q : Int)]) alS
  walk_at "r"
  refine Jv.lc2R (p := p) (q := q) (a := 1) (b := 2) (by omega) (by omega) (fun _ => rfl) (fun _ _ => rfl) (fun P hP => ?_) (fun i H1 hi s1 P hP => ?_) (fun i j H1 hi hj s1 P hP => ?_) (fun D refs H1 s1 hD e1 t1 => ?_)
  · walk_at "r"
    refine skS.ix (v := .int p) rfl ?_
    walk_at "r"; exact hP
  · walk_at "r"
    refine (skS.same s1).ix (v := .int q) rfl ?_
    walk_at "r"; exact hP
  · walk_at "r"
    exact fun t ht => hP t _ (Jv.same_new ht) ht upd_same
  · walk_at "r"
    refine ⟨D, refs, rfl, .inl ⟨Jv.sqL_at e1, fun t ht => ?_⟩⟩
    exact k t refs _ (s1.trans (Jv.same_new ht)) upd_same (t1.same (Jv.same_new ht))
end
end K07

namespace K07
open PySem PySem.Spec PyProof.Rows L2
/-! ### what the couples' lines give -/
theorem foldB_len {lines : List Str} {L : Nat} : ∀ {cs : List (Nat × Nat)} {n : Nat} {R R' : List (List (List Int))}, foldB lines L n cs R = .ok R' → R'.length = R.length
  | [], n, R, R', h => by cases h; rfl
  | (e, w) :: cs, n, R, R', h => by
    unfold foldB at h
    split at h
    · cases h
    · have := foldB_len h
      rw [List.length_modify] at this
      exact this
theorem foldB_rows {lines : List Str} {L : Nat} : ∀ {cs : List (Nat × Nat)} {n : Nat} {R R' : List (List (List Int))}, foldB lines L n cs R = .ok R' → ∀ (k : Nat) row row', R[k]? = some row → R'[k]? = some row' → row'.length = row.length + (cs.map (·.1)).count k
  | [], n, R, R', h, k, row, row', h1, h2 => by
    cases h
    rw [h1] at h2
    cases h2
    simp
  | (e, w) :: cs, n, R, R', h, k, row, row', h1, h2 => by
    unfold foldB at h
    split at h
    · cases h
    · rename_i zs _
      rw [List.map_cons, List.count_cons]
      by_cases c : e = k
      · subst c
        have := foldB_rows h e (row ++ [zs]) row' (by rw [List.getElem?_modify, h1]; simp) h2
        rw [this, List.length_append]
        simp
        omega
      · have := foldB_rows h k row row' (by rw [List.getElem?_modify, h1]; simp [c]) h2
        rw [this]
        simp [c]
theorem foldB_ends {lines : List Str} {L : Nat} {G : List Int → Prop} (hG : ∀ n e w zs, endsB lines n e w L = .ok zs → G zs) : ∀ {cs : List (Nat × Nat)} {n : Nat} {R R' : List (List (List Int))}, foldB lines L n cs R = .ok R' → (∀ row ∈ R, ∀ zs ∈ row, G zs) → ∀ row ∈ R', ∀ zs ∈ row, G zs
  | [], n, R, R', h, hR => by cases h; exact hR
  | (e, w) :: cs, n, R, R', h, hR => by
    unfold foldB at h
    split at h
    · cases h
    · rename_i zs hz
      refine foldB_ends hG h fun row hrow => ?_
      obtain ⟨k, hk, ek⟩ := List.getElem_of_mem hrow
      have e2 : (R.modify e (· ++ [zs]))[k]? = some row := by rw [List.getElem?_eq_getElem hk, ek]
      rw [List.getElem?_modify] at e2
      cases e3 : R[k]? with
      | none => rw [e3] at e2; simp at e2
      | some r0 =>
        rw [e3] at e2
        have old := hR r0 (List.mem_of_getElem? e3)
        by_cases c : e = k
        · simp [c] at e2
          subst e2
          intro ys hy
          rcases List.mem_append.mp hy with hy | hy
          · exact old ys hy
          · rw [List.mem_singleton.mp hy]
            exact hG _ _ _ _ hz
        · simp [c] at e2
          subst e2
          exact old
theorem cpN_count {p q k : Nat} (h : k < p) : ((cpN p q).map (·.1)).count k = q := by
  have key : ∀ (l : List Nat), l.Nodup → ((l.flatMap fun i => (List.range q).map fun j => (i, j)).map (·.1)).count k = if k ∈ l then q else 0 := fun l => by
    induction l with
    | nil => intro _; rfl
    | cons a r ih =>
      intro nd
      rw [List.nodup_cons] at nd
      rw [List.flatMap_cons, List.map_append, List.count_append, ih nd.2, List.map_map]
      have e : (List.range q).map ((fun x : Nat × Nat => x.1) ∘ fun j => (a, j)) = List.replicate q a := by
        refine List.eq_replicate_iff.mpr ⟨by simp, fun b hb => ?_⟩
        obtain ⟨j, _, rfl⟩ := List.mem_map.mp hb
        rfl
      rw [e, List.count_replicate]
      by_cases c : a = k
      · subst c
        simp [nd.1]
      · have c' : ¬ k = a := fun z => c z.symm
        simp [c, c']
  have := key (List.range p) List.nodup_range
  rw [if_pos (List.mem_range.mpr h)] at this
  exact this
/-- what a couple's line gives -/
def GoodE (L : Nat) (zs : List Int) : Prop := zs ≠ [] ∧ (∀ z ∈ zs, -(L : Int) ≤ z ∧ z ≤ L) ∧ zs.Pairwise (· < ·)
theorem endsB_good {lines : List Str} {n e w L : Nat} {zs : List Int} (h : endsB lines n e w L = .ok zs) : GoodE L zs := by
  unfold endsB at h
  split at h
  · cases h
  split at h
  · cases h
  split at h
  · cases h
  split at h
  · cases h
  rename_i cr
  split at h
  · rename_i cp
    cases h
    refine ⟨fun z => ?_, fun z hz => ?_, cp⟩
    · unfold intsIn endsIn endsOf at z
      rw [List.map_eq_nil_iff, List.map_eq_nil_iff] at z
      exact split_ne _ z
    · have cr : (intsIn (lines.getD (n - 1) Str.empty)).all (fun z => decide (-(L : Int) ≤ z ∧ z ≤ L)) = true := by
        cases c : (intsIn (lines.getD (n - 1) Str.empty)).all (fun z => decide (-(L : Int) ≤ z ∧ z ≤ L)) with
        | true => rfl
        | false => exact absurd c cr
      exact of_decide_eq_true (List.all_eq_true.mp cr z hz)
  · cases h
end K07

namespace K07
open PySem PySem.Spec PyProof.Rows L2
/-! ### the pieces of a whole reading -/
theorem foldB_app {lines : List Str} {L : Nat} : ∀ {cs ds : List (Nat × Nat)} {n : Nat} {R : List (List (List Int))}, foldB lines L n (cs ++ ds) R = match foldB lines L n cs R with
    | .error f => .error f
    | .ok R1 => foldB lines L (n + cs.length) ds R1
  | [], ds, n, R => rfl
  | (e, w) :: cs, ds, n, R => by
    rw [List.cons_append]
    show (match endsB lines (n + 1) e w L with | .error f => _ | .ok zs => _) = _
    rw [show foldB lines L n ((e, w) :: cs) R = (match endsB lines (n + 1) e w L with | .error f => .error (n + 1, f) | .ok zs => foldB lines L (n + 1) cs (R.modify e (· ++ [zs]))) from rfl]
    cases c : endsB lines (n + 1) e w L with
    | error f => rfl
    | ok zs =>
      show foldB lines L (n + 1) (cs ++ ds) _ = _
      rw [foldB_app, List.length_cons, show n + (cs.length + 1) = n + 1 + cs.length by omega]
def rowD (row : List (List Int)) : PyData := .list (row.map fun zs => .list (zs.map PyData.int))
theorem Wn.dv {K : PySem.W.Frag} {H : Hp} {D : Addr} {As : List Addr} {R : List (List (List Int))} (h : Wn K H D As R) : Jv.Dv K H (.ref D) (.list (R.map rowD)) := by
  refine .lst h.hD ?_
  have key : ∀ (As : List Addr) (R : List (List (List Int))), As.length = R.length → (∀ (k : Nat) b rows, As[k]? = some b → R[k]? = some rows → Jv.Dv K H (.ref b) (rowD rows)) → Jv.DvAll K H (As.map V.ref) (R.map rowD) := fun As => by
    induction As with
    | nil =>
      intro R e _
      cases R with
      | nil => exact .nil
      | cons a r => simp at e
    | cons b r ih =>
      intro R e h
      cases R with
      | nil => simp at e
      | cons a q => exact .cons (h 0 b a rfl rfl) (ih q (by simpa using e) fun k b' rows e1 e2 => h (k + 1) b' rows (by simpa using e1) (by simpa using e2))
  exact key As R h.len fun k b rows e1 e2 => by
    obtain ⟨vs, h1, h2⟩ := h.at_ k b rows e1 e2
    exact .lst h1 (h2.same Jv.hide_le)
theorem Wn.init {K : PySem.W.Frag} {H : Hp} {D : Addr} {As : List Addr} {p : Nat} (h1 : As.length = p) (h2 : As.Nodup) (h3 : D ∉ As) (h4 : H D = some (.lst (As.map V.ref))) (h5 : ∀ (k : Nat) b, As[k]? = some b → H b = some (.lst [])) : Wn K H D As (List.replicate p []) :=
  ⟨by simp [h1], h2, h3, h4, fun k b rows e1 e2 => by
    have : rows = [] := by
      have := List.mem_of_getElem? e2
      exact (List.mem_replicate.mp this).2
    subst this
    exact ⟨[], h5 k b e1, .nil⟩⟩
theorem pairedR {R : List (List (List Int))} : Paired LineR (R.map rowD) R := by
  induction R with
  | nil => exact .nil
  | cons row r ih =>
    refine .cons ⟨_, rfl, ?_⟩ ih
    induction row with
    | nil => exact .nil
    | cons zs q ih2 => exact .cons rfl ih2
theorem side_facts {p q : Nat} (h : sideB p q = true) : 1 ≤ p ∧ p ≤ 6 ∧ 1 ≤ q ∧ q ≤ 6 ∧ p * q ≤ 12 := by
  have h : decide (((1 : Int) ≤ p ∧ (p : Int) ≤ 6) ∧ ((1 : Int) ≤ q ∧ (q : Int) ≤ 6) ∧ (p : Int) * q ≤ 12) = true := h
  have h := of_decide_eq_true h
  obtain ⟨⟨a, b⟩, ⟨c, d⟩, e⟩ := h
  refine ⟨by omega, by omega, by omega, by omega, ?_⟩
  have : ((p * q : Nat) : Int) ≤ 12 := by rw [Int.natCast_mul]; exact e
  omega
theorem good_read {lines : List Str} {l p q : Nat} {R : List (List (List Int))} {k0 k1 : Bool} (hl : l ≤ 6) (hs : sideB p q = true) (hf : foldB lines l 3 (cpN p q) (List.replicate p []) = .ok R) (hx : ∀ n e w zs, endsB lines n e w l = .ok zs → zs.length ≤ 60) :
    GoodG (.int l) (.list (R.map rowD)) (.tuple [.bool k0, .bool k1]) l R k0 k1 p q := by
  obtain ⟨s1, s2, s3, s4, s5⟩ := side_facts hs
  have ln := foldB_len hf
  rw [List.length_replicate] at ln
  refine ⟨rfl, by omega, by omega, ⟨_, rfl, pairedR⟩, ln, fun row hrow => ?_, s1, s2, s3, s4, s5, fun row hrow zs hz => ?_, rfl⟩
  · obtain ⟨k, hk, ek⟩ := List.getElem_of_mem hrow
    have := foldB_rows hf k [] row (by rw [List.getElem?_replicate, if_pos (by omega)]) (by rw [List.getElem?_eq_getElem hk, ek])
    rw [this, cpN_count (by omega)]
    simp
  · have := foldB_ends (G := fun zs => GoodE l zs ∧ zs.length ≤ 60) (fun n e w zs h => ⟨endsB_good h, hx n e w zs h⟩) hf (fun row hr zs hz => by rw [(List.mem_replicate.mp hr).2] at hz; cases hz) row hrow zs hz
    exact ⟨this.1.1, this.2, this.1.2.1⟩
end K07

namespace Jv
open PySem PySem.Spec PyProof.Rows L2
theorem r_makeX7 {C : Addr} {sp : Sp} {dvs : List V} {E : L2.St → XK} {t : TA} {σ : L2.St} {H : Hp} {Q : VK} (h : t σ H fun vs H1 => ∀ x dx, H1 x = none → H1 dx = none → dx ≠ x →
  sp (.ref x :: (vs ++ dvs)) (L2.upd (L2.upd H1 dx (.own x)) x (.ins C dx [])) (fun v H2 => v = .non ∧ Q (.ref x) H2) (E σ)) : Jv.tMakeX C sp dvs E t σ H Q := h
end Jv
namespace K07
open PySem PySem.Spec PyProof.Rows L2
/-! ### read_goals -/
theorem prs_cp (p q : Nat) : Jv.prs p q = (cpN p q).map fun c => ((c.1 : Int), (c.2 : Int)) := by
  unfold Jv.prs Jv.pairsTo cpN
  simp [List.map_flatMap, Function.comp_def]
theorem cpN_mem {p q : Nat} {c : Nat × Nat} (h : c ∈ cpN p q) : c.1 < p ∧ c.2 < q := by
  unfold cpN at h
  obtain ⟨i, hi, h⟩ := List.mem_flatMap.mp h
  obtain ⟨j, hj, rfl⟩ := List.mem_map.mp h
  exact ⟨List.mem_range.mp hi, List.mem_range.mp hj⟩
theorem cpN_len (p q : Nat) : (cpN p q).length = p * q := by
  unfold cpN
  induction p with
  | zero => simp
  | succ p ih => rw [List.range_succ, List.flatMap_append, List.length_append, ih]; simp [Nat.succ_mul]
theorem take_next {α : Type} {cs : List α} {i : Nat} {c : α} (h : cs[i]? = some c) : cs = cs.take i ++ c :: cs.drop (i + 1) ∧ cs.take (i + 1) = cs.take i ++ [c] ∧ (cs.take i).length = i := by
  have hi := (List.getElem?_eq_some_iff.mp h).1
  have e := (List.getElem?_eq_some_iff.mp h).2
  refine ⟨?_, ?_, by rw [List.length_take]; omega⟩
  · rw [← e, ← List.drop_eq_getElem_cons hi, List.take_append_drop]
  · rw [← e, List.take_succ_eq_append_getElem hi]
theorem foldB_err {lines : List Str} {L n i e w : Nat} {cs : List (Nat × Nat)} {R R1 : List (List (List Int))} {f : Str} (h : cs[i]? = some (e, w)) (hR : foldB lines L n (cs.take i) R = .ok R1) (hf : endsB lines (n + i + 1) e w L = .error f) : foldB lines L n cs R = .error (n + i + 1, f) := by
  obtain ⟨h1, _, h3⟩ := take_next h
  rw [h1, foldB_app, hR, h3]
  show (match endsB lines (n + i + 1) e w L with | .error f => _ | .ok zs => _) = _
  rw [hf]
theorem foldB_next {lines : List Str} {L n i e w : Nat} {cs : List (Nat × Nat)} {R R1 : List (List (List Int))} {zs : List Int} (h : cs[i]? = some (e, w)) (hR : foldB lines L n (cs.take i) R = .ok R1) (hf : endsB lines (n + i + 1) e w L = .ok zs) : foldB lines L n (cs.take (i + 1)) R = .ok (R1.modify e (· ++ [zs])) := by
  obtain ⟨_, h2, h3⟩ := take_next h
  rw [h2, foldB_app, hR, h3]
  show (match endsB lines (n + i + 1) e w L with | .error f => _ | .ok zs => _) = _
  rw [hf]
  rfl
theorem endsB_few {lines : List Str} {n e w L : Nat} {zs : List Int} (fw : ∀ y ∈ lines, y.length ≤ 120) (h : endsB lines n e w L = .ok zs) : zs.length ≤ 60 := by
  unfold endsB at h
  split at h
  · cases h
  rename_i h0
  split at h
  · cases h
  rename_i h1
  split at h
  · cases h
  split at h
  · cases h
  split at h
  · cases h
    have lx : (lines.getD (n - 1) Str.empty).length ≤ 120 := by
      by_cases hn : n - 1 < lines.length
      · rw [List.getD_eq_getElem?_getD, List.getElem?_eq_getElem hn]; exact fw _ (List.getElem_mem hn)
      · rw [List.getD_eq_getElem?_getD, List.getElem?_eq_none (by omega)]; exact Nat.zero_le _
    have ce : (endsIn (lines.getD (n - 1) Str.empty)).any (·.isNone) = false := by
      cases c : (endsIn (lines.getD (n - 1) Str.empty)).any (·.isNone) with
      | false => rfl
      | true => exact absurd (.inr (.inr c)) h1
    have := ends_few ce (Nat.le_trans (cut_le _).2 lx)
    unfold intsIn endsIn endsOf
    rw [List.length_map, List.length_map]; exact this
  · cases h
theorem Wn.isL {K : PySem.W.Frag} {H : Hp} {D b : Addr} {As : List Addr} {R : List (List (List Int))} (h : Wn K H D As R) (m : b ∈ As) : ∃ vs, H b = some (.lst vs) := by
  obtain ⟨k, hk, e⟩ := List.getElem_of_mem m
  have hk2 : k < R.length := by rw [← h.len]; exact hk
  obtain ⟨vs, h1, _⟩ := h.at_ k b R[k] (by rw [List.getElem?_eq_getElem hk, e]) (List.getElem?_eq_getElem hk2)
  exact ⟨vs, h1⟩
def nlT : Str := Str.ofString "\n"
def sp_read_goals (K : PySem.W.Frag) (T : Tx) : Sp := fun vs H Q E => ∃ x : Str, vs = [.str x] ∧ x.length ≤ 5000 ∧ (Txt.split x nlT).length ≤ 900 ∧ (∀ y ∈ Txt.split x nlT, y.length ≤ 120) ∧
  (∀ n f, goalB (Txt.split x nlT) = .error (n, f) → ∀ d H', Same H H' → H' d = some (xT n f) → E (.ref T.C_BadText) (some d) H') ∧
  (∀ r p q k0 k1, goalB (Txt.split x nlT) = .ok r → r.ks = [k0, k1] → GoodG (.int r.l) (.list (r.rows.map rowD)) (.tuple [.bool k0, .bool k1]) r.l r.rows k0 k1 p q → ∀ a H', Same H H' → H a = none → GAt K H' T.C_Goals a r.l (wantD r.l r.rows) k0 k1 p q → Q (.ref a) H')
theorem Lns.same {H H' : Hp} {a : Addr} {lines : List Str} (h : Lns H a lines) (s : Same H H') : Lns H' a lines := ⟨s _ _ h.1, h.2⟩
section
variable {P : Program} {w : World} {K : PySem.W.Frag} {mg : Str → Option Value} {base : Heap}
theorem ok_read_goals (T : Tx) (O : Ok K mg T) : FnOk P w K mg base (L2.CX P w) 6 T.f_read_goals T.d_read_goals ["text"] (sp_read_goals K T) := by
  refine O.F_read_goals.okX sc_read_goals (fun vs H Q E h => by obtain ⟨_, rfl, _⟩ := h; rfl) (fun cdv A0 outer s H vs Q E hr h => ?_)
  obtain ⟨x, rfl, fx, few, fw, kE, kQ⟩ := h
  refine ⟨_, (pss_cons (ps_set (i := 1) sc_read_goals.nd rfl (Or.inl rfl) (pe_split (pv 0) pe_str))
  (pss_cons (ps_set (i := 2) sc_read_goals.nd rfl (Or.inl rfl) (pe_callS (ok_read_ladder T O) (hr.mono (by decide)) (by rfl) O.m_read_ladder O.F_read_ladder.kp O.b_read_ladder (fun σ => passAt (takes_of rfl rfl rfl rfl) σ) (pa_cons (pv 1) pa_nil)))
  (pss_cons (ps_set (i := 3) sc_read_goals.nd rfl (Or.inl rfl) (pe_callS (ok_read_sides T O) (hr.mono (by decide)) (by rfl) O.m_read_sides O.F_read_sides.kp O.b_read_sides (fun σ => passAt (takes_of rfl rfl rfl rfl) σ) (pa_cons (pv 1) pa_nil)))
  (pss_cons (ps_set (i := 4) sc_read_goals.nd rfl (Or.inl rfl) (pe_callS (ok_read_truths T O) (hr.mono (by decide)) (by rfl) O.m_read_truths O.F_read_truths.kp O.b_read_truths (fun σ => passAt (takes_of rfl rfl rfl rfl) σ) (pa_cons (pv 1) (pa_cons pe_str (pa_cons pe_int pa_nil)))))
  (pss_cons (ps_setLc (i := 5) (own := [("_", 8)]) (by rfl) sc_read_goals.nd rfl rfl (sw_true rfl rfl rfl (by decide +kernel)) (pi_range1 (by rfl) O.z_range (pa_cons (pe_ix (r := rIx K) ix_seq (pv 3) (pe_glob (v := .int (0)) (by rfl) O.c_EAST ⟨_, rfl⟩) (fun _ _ => rfl)) pa_nil)) (blkOk_by (own := [("_", 8)]) (N := ["text", "lines", "ladder", "sides", "knows", "wanted", "number", "couple", "_"]) (sc := defScope s_read_goals) (scope := ({ kind := .function, names := [(".0", .local), ("_", .local)], isGenerator := false, isCoroutine := false } : Scope)) (by decide +kernel)) (fun _ _ _ _ _ => (pg_name (i := 8) sc_read_goals.nd rfl (Or.inl rfl))) (fun _ _ _ _ _ => pts_nil) (fun _ _ _ _ _ => (pe_lst pa_nil)))
  (pss_cons (ps_set (i := 6) sc_read_goals.nd rfl (Or.inl rfl) pe_int)
  (pss_cons (ps_for (passes_of rfl) rfl (show PI _ _ _ (iTup K _) from pi_tup (pe_call (ok_couples_of T O) (hr.mono (by decide)) (by rfl) O.m_couples_of O.F_couples_of.kp O.b_couples_of .nil pass0 (pa_cons (pv 3) pa_nil))) (pg_name (i := 7) sc_read_goals.nd rfl (Or.inl rfl)) (pss_cons (ps_aug (i := 6) sc_read_goals.nd rfl (Or.inl rfl) pe_int ip_add)
  (pss_one (ps_expr (show PE _ _ (tBM K _ _ _ _) from pe_bm PySem.F.plainAttrs_list PySem.F.slot_list_append PySem.F.type_list_append mt_append (pe_ix (r := rIxL K) ix_list (pv 5) (pe_ix (r := rIx K) ix_seq (pv 7) (pe_glob (v := .int (0)) (by rfl) O.c_EAST ⟨_, rfl⟩) (fun _ _ => rfl)) (fun _ _ => rfl)) (pa_cons (pe_callS (ok_read_ends T O) (hr.mono (by decide)) (by rfl) O.m_read_ends O.F_read_ends.kp O.b_read_ends (fun σ => passAt (takes_of rfl rfl rfl rfl) σ) (pa_cons (pv 1) (pa_cons (pv 6) (pa_cons (pv 7) (pa_cons (pv 2) pa_nil))))) pa_nil))))))
  (pss_cons (ps_if (pt_cmpR op_gt (pe_callB (r := Jv.rLenK K) Jv.cr_len (by rfl) O.z_len (by decide +kernel) (pa_cons (pv 1) pa_nil)) (pv 6) (nomark _)) (pss_one (ps_raise rfl (takes_of rfl rfl rfl rfl) (pmk_oex O.x_BadText.o O.x_BadText.n O.x_BadText.y (ok_BadTextu_initu T O) (hr.mono (by decide)) O.b_BadTextu_initu .nil pass0 (by rfl) O.m_BadText (pa_cons (pe_op op_add (pv 6) pe_int) (pa_cons pe_str pa_nil))))) pss_nil)
  (pss_one (ps_ret (Jv.pe_makeX O.k_Goals (ok_Goalsu_initu T O) (hr.mono (by decide)) (by rfl) O.m_Goals O.b_Goalsu_initu .nil (fun σ => passAt (takes_of rfl rfl rfl rfl) σ) (pa_cons (pv 2) (pa_cons (pv 5) (pa_cons (pv 4) pa_nil)))))))))))))), ?_⟩
  walk_at "r"
  refine Jv.r_m1 ?_
  walk_at "r"
  refine ⟨⟨_, rfl⟩, ?_⟩
  walk_at "r"
  refine ⟨_, _, rfl, rfl, by decide +kernel, Nat.le_trans (Nat.add_le_add_right fx 2) (by decide), fun a ha => ?_⟩
  obtain ⟨lines, hl⟩ : ∃ lines, lines = Txt.split x nlT := ⟨_, rfl⟩
  rw [← hl] at few fw kE kQ
  have s1 := Jv.same_new (u := .lst (lines.map V.str)) ha
  have e1 : upd H a (.lst (lines.map V.str)) a = some (.lst (lines.map V.str)) := upd_same
  rw [show Txt.split x (Str.ofString "\n") = lines from hl.symm]
  generalize upd H a (.lst (lines.map V.str)) = H1 at s1 e1 ⊢
  have ls : Lns H1 a lines := ⟨e1, few, fw⟩
  walk_at "r"
  refine ⟨a, lines, rfl, ls, fun f e d H' s' hd => kE 1 f (by unfold goalB; rw [e]) d H' (s1.trans s') hd, fun l el l6 H2 s2 => ?_⟩
  walk_at "r"
  refine ⟨a, lines, rfl, ls.same s2, fun f e d H' s' hd => kE 2 f (by unfold goalB; rw [el]; simp only [e]) d H' ((s1.trans s2).trans s') hd, fun p q es sB t H3 s3 nt et => ?_⟩
  walk_at "r"
  refine ⟨a, lines, _, 2, rfl, (ls.same s2).same s3, by decide, fun f e d H' s' hd => kE 3 f (by unfold goalB; rw [el]; simp only [es, e]) d H' (((s1.trans s2).trans s3).trans s') hd, fun ks ek lk tk H4 s4 ntk etk => ?_⟩
  obtain ⟨k0, k1, rfl⟩ : ∃ k0 k1, ks = [k0, k1] := by
    match ks, lk with
    | [a, b], _ => exact ⟨a, b, rfl⟩
  have et4 := s4 _ _ et
  have sk : Jv.Sk K H4 (.ref t) [.int p, .int q] := ⟨t, rfl, .inr (Jv.sqT_at et4)⟩
  obtain ⟨p1, p6, q1, q6, pq⟩ := side_facts sB
  walk_at "r"
  refine Jv.lcOwnR (n := p) (k := p) (fun P hP => by walk_at "r"; refine sk.ix (v := .int p) (by rfl) ?_; walk_at "r"; exact hP) rfl (fun _ => []) (by omega) (fun i D H5 hi s5 hD PP hP => ?_) (fun D As H5 s5 hD lA nd nD nAs eD eA => ?_)
  · walk_at "r"
    intro u hu
    exact hP u _ hu (Jv.same_new hu) upd_same
  have w5 : Wn K H5 D As (List.replicate p []) := Wn.init lA nd nD eD eA
  have et5 := s5 _ _ et4
  walk_at "r"
  refine ⟨.ref t, p, q, rfl, .tup (Jv.sqT_at et5) (.cons (.int _) (.cons (.int _) .nil)), ⟨by omega, by omega⟩, fun r refs H6 s6 er tups => ?_⟩
  rw [prs_cp] at tups
  have w6 := w5.same s6
  have s46 := s5.trans s6
  have nDH : H4 D = none := hD
  refine ⟨r, rfl, ⟨_, Jv.sqT_at er⟩, ?_⟩
  have nT : ∀ b xs, H6 b = some (.tup xs) → b ∉ As := fun b xs e m => by
    obtain ⟨vs, h⟩ := w6.isL m
    rw [e] at h; cases h
  refine for_tup (xs := refs) (fun i σ H' => ∃ y7 R, σ = [some (.str x), some (.ref a), some (.int l), some (.ref t), some (.ref tk), some (.ref D), some (.int (3 + (i : Nat))), y7, none] ∧ foldB lines l 3 ((cpN p q).take i) (List.replicate p []) = .ok R ∧ Wn K H' D As R ∧ Same H4 H' ∧ ∀ b o, b ∉ As → H6 b = some o → H' b = some o)
    ⟨_, _, rfl, rfl, w6, s46, fun _ _ _ e => e⟩ (fun i σ H' _ ⟨_, _, _, _, _, _, k⟩ => Jv.sqT_at (k _ _ (nT _ _ er) er)) ?_ ?_
  · rintro i v σ H7 hv ⟨y7, R, rfl, hR, w7, s7, k7⟩
    obtain ⟨pr, hpr, u, rfl, eu⟩ := pairAt tups hv
    rw [List.getElem?_map] at hpr
    obtain ⟨e, w0, hc, rfl⟩ : ∃ e w0, (cpN p q)[i]? = some (e, w0) ∧ ((e : Int), (w0 : Int)) = pr := by
      cases c : (cpN p q)[i]? with
      | none => rw [c] at hpr; cases hpr
      | some c0 => rw [c] at hpr; cases hpr; exact ⟨c0.1, c0.2, rfl, rfl⟩
    have eu7 := k7 u _ (nT _ _ eu) eu
    obtain ⟨ce, cw⟩ := cpN_mem (List.mem_of_getElem? hc)
    have hi : i < p * q := by rw [← cpN_len]; exact (List.getElem?_eq_some_iff.mp hc).1
    have lR := foldB_len hR
    rw [List.length_replicate] at lR
    obtain ⟨b, hb⟩ : ∃ b, As[e]? = some b := ⟨_, List.getElem?_eq_getElem (by rw [w7.len]; omega)⟩
    obtain ⟨rows, hr2⟩ : ∃ rows, R[e]? = some rows := ⟨_, List.getElem?_eq_getElem (by omega)⟩
    have lrow := foldB_rows hR e [] rows (by rw [List.getElem?_replicate, if_pos (by omega)]) hr2
    have cnt : (((cpN p q).take i).map (·.1)).count e ≤ 12 := by
      have := List.count_le_length (a := e) (l := ((cpN p q).take i).map (·.1))
      rw [List.length_map, List.length_take] at this
      omega
    obtain ⟨vs7, hv7, _⟩ := w7.at_ e b rows hb hr2
    walk_at "r"
    refine ⟨_, rfl, _, _, rfl, rfl, ?_⟩
    walk_at "r"
    refine Jv.Sk.ix (K := K) (H := H7) (x := .ref u) (xs := [.int e, .int w0]) ⟨u, rfl, .inr (Jv.sqT_at eu7)⟩ (v := .int e) (by rfl) ?_
    walk_at "r"
    refine Jv.r_ixL (Jv.sqL_at w7.hD) (Jv.at_i (v := .ref b) (by omega) (by rw [Int.toNat_natCast, List.getElem?_map, hb]; rfl)) ?_
    walk_at "r"
    refine ⟨a, lines, 3 + i + 1, e, w0, l, .ref u, by rw [show ((3 + i + 1 : Nat) : Int) = (3 : Int) + (i : Nat) + 1 by omega], ((ls.same s2).same s3).same (s4.trans s7), by omega, .tup (Jv.sqT_at eu7) (.cons (.int _) (.cons (.int _) .nil)), fun f ef d H' s' hd => kE (3 + i + 1) f (by unfold goalB; rw [el]; simp only [es, ek]; rw [foldB_err hc hR ef]) d H' (((((s1.trans s2).trans s3).trans s4).trans s7).trans s') hd, fun zs ez pz Hz sz npz epz => ?_⟩
    have w8 := w7.same sz
    obtain ⟨vs8, hv8, dv8⟩ := w8.at_ e b rows hb hr2
    have lv := dv8.len
    rw [List.length_map] at lv
    have nz : pz ∉ D :: As := fun m => by
      rcases List.mem_cons.mp m with rfl | m
      · rw [w7.hD] at npz; cases npz
      · obtain ⟨vs, h⟩ := w7.isL m
        rw [h] at npz; cases npz
    walk_at "r"
    refine Jv.r_app hv8 (by rw [lv, lrow, List.length_nil]; omega) ?_
    refine ⟨_, _, by rw [show (3 + ((i + 1 : Nat) : Int)) = 3 + (i : Nat) + 1 by omega]; rfl, foldB_next hc hR ez, w8.put hb hr2 hv8 (.lst (Jv.hide_at nz epz) (Jv.dv_ints _)), fun b' o h' => ?_, fun b' o nb h' => ?_⟩
    · have : b' ≠ b := fun z => by
        subst z
        have := nAs b' (List.mem_of_getElem? hb)
        rw [this] at h'; cases h'
      rw [upd_ne this]
      exact sz _ _ (s7 _ _ h')
    · rw [upd_ne (fun z => nb (by rw [z]; exact List.mem_of_getElem? hb))]
      exact sz _ _ (k7 _ _ nb h')
  · rintro σ H7 ⟨y7, R, rfl, hR, w7, s7, k7⟩
    have lr : refs.length = p * q := by rw [tups.length, List.length_map, cpN_len]
    rw [lr, ← cpN_len p q, List.take_length] at hR
    rw [lr]
    have ls7 := (((ls.same s2).same s3).same (s4.trans s7)).1
    have s17 := (((s1.trans s2).trans s3).trans s4).trans s7
    have g := good_read (k0 := k0) (k1 := k1) l6 sB hR fun n e w zs h => endsB_few fw h
    walk_at "r"
    rw [List.length_map]
    refine Jv.r_dec (fun z => ?_) (fun z => ?_)
    · refine raiseT (n := 4 + p * q) (fun P hP => by walk_at "r"; rw [show ((4 + p * q : Nat) : Int) = 3 + (p * q : Nat) + 1 by omega] at hP; exact hP) fun d H' s' hd => kE (4 + p * q) _ (by unfold goalB; rw [el]; simp only [es, ek, hR]; exact if_pos (by omega)) d H' (s17.trans s') hd
    · walk_at "r"
      refine Jv.r_makeX7 ?_
      walk_at "r"
      refine mk_good (.int _) w7.dv (.tup (Jv.sqT_at (s7 _ _ etk)) (.cons (.bl _) (.cons (.bl _) .nil))) g fun r H' s' nr ga => ?_
      exact kQ ⟨l, R, [k0, k1]⟩ p q k0 k1 (by unfold goalB; rw [el]; simp only [es, ek, hR]; exact if_neg (by omega)) rfl g r H' (s17.trans s') (Same.free s17 nr) ga
end
end K07

namespace K07
open PySem PySem.Spec PyProof.Rows L2
/-! ### what the law reads -/
def badV (n : Nat) (f : Str) : HO := .lst [.str (Str.ofString "bad"), .int n, .str f]
def sp_Lread (K : PySem.W.Frag) (T : Tx) : Sp := fun vs H Q _ => ∃ x : Str, vs = [.str x] ∧ x.length ≤ 5000 ∧ (Txt.split x nlT).length ≤ 900 ∧ (∀ y ∈ Txt.split x nlT, y.length ≤ 120) ∧
  (∀ n f, goalB (Txt.split x nlT) = .error (n, f) → ∀ D H', Same H H' → H D = none → H' D = some (badV n f) → Q (.ref D) H') ∧
  (∀ r p q k0 k1, goalB (Txt.split x nlT) = .ok r → r.ks = [k0, k1] → GoodG (.int r.l) (.list (r.rows.map rowD)) (.tuple [.bool k0, .bool k1]) r.l r.rows k0 k1 p q → ∀ a H', Same H H' → H a = none → GAt K H' T.C_Goals a r.l (wantD r.l r.rows) k0 k1 p q → Q (.ref a) H')
section
variable {P : Program} {w : World} {K : PySem.W.Frag} {mg : Str → Option Value} {base : Heap}
theorem ok_Lread (T : Tx) (O : Ok K mg T) : FnOk P w K mg base CX0 8 T.f_Lread T.d_Lread ["_law_text_here"] (sp_Lread K T) := by
  refine O.F_Lread.ok sc_Lread (fun vs H Q E h => by obtain ⟨_, rfl, _⟩ := h; rfl) (fun cdv A outer s H vs Q E hr h => ?_)
  obtain ⟨x, rfl, fx, few, fw, kE, kQ⟩ := h
  refine ⟨_, (pss_one (ps_try_as (i := 1) rfl rfl sc_Lread.nd rfl rfl ⟨rfl, by decide, .inl O.m_BadText⟩ takes0 (fun W pn xe tk _ => (pss_one (ps_ret (pe_callS (ok_read_goals T O) (hr.mono (by decide)) (by rfl) O.m_read_goals O.F_read_goals.kp O.b_read_goals (fun σ => passAt tk σ) (pa_cons (pv 0) pa_nil))))) (fun a oe cls d pn hz hf => (pss_one (ps_ret (pe_lst (pa_cons pe_str (pa_cons (pe_xf O.x_BadText.f O.n_BadText_number hz hf (pv 1)) (pa_cons (pe_xf O.x_BadText.f O.n_BadText_what hz hf (pv 1)) pa_nil))))))))), ?_⟩
  walk_at "r"
  refine ⟨x, rfl, fx, few, fw, fun n f e d H1 s1 hd => ?_, kQ⟩
  refine ⟨true, O.x_BadText.e, fun _ a ha => ?_, fun z => nomatch z⟩
  walk_at "r"
  refine ⟨_, rfl, rfl, rfl, d, _, _, rfl, hd, rfl, ?_⟩
  walk_at "r"
  refine ⟨_, rfl, rfl, rfl, d, _, _, rfl, hd, rfl, ?_⟩
  walk_at "r"
  exact fun D hD => kE n f e D _ (s1.trans (Jv.same_new hD)) (s1.free hD) upd_same
end
end K07

namespace K07
open PySem PySem.Spec PyProof.Rows L2
/-! ### couples, what the law asks of one goal -/
def cpD (e f : Nat) : PyData := .tuple [.int e, .int f]
def couplesD (p q : Nat) : List PyData := (List.range p).flatMap fun e => (List.range q).map (cpD e)
theorem couplesD_more (i q : Nat) : couplesD (i + 1) q = couplesD i q ++ (List.range q).map (cpD i) := by
  unfold couplesD
  rw [List.range_succ, List.flatMap_append]; simp
theorem couplesD_len (i q : Nat) : (couplesD i q).length = i * q := by
  induction i with
  | zero => simp [couplesD]
  | succ n ih => rw [couplesD_more, List.length_append, ih, List.length_map, List.length_range, Nat.succ_mul]
theorem couplesD_mem {p q : Nat} {d : PyData} (h : d ∈ couplesD p q) : ∃ e f : Nat, e < p ∧ f < q ∧ d = cpD e f := by
  obtain ⟨e, he, h2⟩ := List.mem_flatMap.mp h
  obtain ⟨f, hf, rfl⟩ := List.mem_map.mp h2
  exact ⟨e, f, List.mem_range.mp he, List.mem_range.mp hf, rfl⟩
theorem couplesD_all {p q e f : Nat} (he : e < p) (hf : f < q) : cpD e f ∈ couplesD p q := List.mem_flatMap.mpr ⟨e, List.mem_range.mpr he, List.mem_map.mpr ⟨f, List.mem_range.mpr hf, rfl⟩⟩
def CpIn (K : PySem.W.Frag) (sa D : Addr) (q : Nat) (H : Hp) (i j : Nat) (σ : L2.St) (H1 : Hp) : Prop := ∃ y3 ys, σ = [some (.ref sa), some (.ref D), some (.int (0 + (i : Int))), y3] ∧ Same H H1 ∧ H1 D = some (.lst ys) ∧ Jv.DvAll K (Jv.hide [D] H1) ys (couplesD i q ++ (List.range j).map (cpD i))
def CpOut (K : PySem.W.Frag) (sa D : Addr) (q : Nat) (H : Hp) (i : Nat) (σ : L2.St) (H1 : Hp) : Prop := ∃ y2 y3 ys, σ = [some (.ref sa), some (.ref D), y2, y3] ∧ Same H H1 ∧ H1 D = some (.lst ys) ∧ Jv.DvAll K (Jv.hide [D] H1) ys (couplesD i q)
def sp_Lcouples (K : PySem.W.Frag) : Sp := fun vs H Q _ => ∃ s, ∃ p q : Nat, vs = [.ref s] ∧ H s = some (.tup [.int p, .int q]) ∧ (p ≤ 6 ∧ q ≤ 6) ∧ ∀ D ys H', Same H H' → H D = none → H' D = some (.lst ys) → Jv.DvAll K H' ys (couplesD p q) → Q (.ref D) H'
section
variable {P : Program} {w : World} {K : PySem.W.Frag} {mg : Str → Option Value} {base : Heap}
theorem ok_Lcouples (T : Tx) (O : Ok K mg T) : FnOk P w K mg base CX0 1 T.f_Lcouples T.d_Lcouples ["_law_sides"] (sp_Lcouples K) := by
  refine O.F_Lcouples.ok sc_Lcouples (fun vs H Q E h => by obtain ⟨_, _, _, rfl, _⟩ := h; rfl) (fun cdv A outer s H vs Q E hr h => ?_)
  obtain ⟨sa, p, q, rfl, hsa, ⟨hp, hq⟩, k⟩ := h
  refine ⟨_, (pss_cons (ps_set (i := 1) sc_Lcouples.nd rfl (Or.inl rfl) (pe_lst pa_nil))
  (pss_cons (ps_for PassesOwn.never rfl (pi_range1 (by rfl) O.z_range (pa_cons (pe_ix (r := rIx K) ix_seq (pv 0) pe_int (fun _ _ => rfl)) pa_nil)) (pg_name (i := 2) sc_Lcouples.nd rfl (Or.inl rfl)) (pss_one (ps_for PassesOwn.never rfl (pi_range1 (by rfl) O.z_range (pa_cons (pe_ix (r := rIx K) ix_seq (pv 0) pe_int (fun _ _ => rfl)) pa_nil)) (pg_name (i := 3) sc_Lcouples.nd rfl (Or.inl rfl)) (pss_one (ps_expr (show PE _ _ (tBM K _ _ _ _) from pe_bm PySem.F.plainAttrs_list PySem.F.slot_list_append PySem.F.type_list_append mt_append (pv 1) (pa_cons (pe_tup (pa_cons (pv 2) (pa_cons (pv 3) pa_nil))) pa_nil)))))))
  (pss_one (ps_ret (pv 1))))), ?_⟩
  walk_at "r"
  intro D hD
  have skS : ∀ H', Same H H' → Jv.Sk K H' (.ref sa) [.int p, .int q] := fun H' s' => ⟨sa, rfl, .inr (Jv.sqT_at (s' _ _ hsa))⟩
  walk_at "r"
  refine (skS _ (Jv.same_new hD)).ix (v := .int p) rfl ?_
  refine ⟨(p : Int), rfl, by omega, by omega, ?_⟩
  refine for_range (lo := 0) (n := ((p : Int)).toNat) (CpOut K sa D q H) ⟨_, _, [], rfl, Jv.same_new hD, upd_same, .nil⟩ ?_ ?_
  · rintro i σ H1 hi ⟨y2, y3, ys, rfl, s1, e1, dv1⟩
    walk_at "r"
    refine (skS _ s1).ix (v := .int q) rfl ?_
    refine ⟨(q : Int), rfl, by omega, by omega, ?_⟩
    refine for_range (lo := 0) (n := ((q : Int)).toNat) (CpIn K sa D q H i) ⟨_, ys, rfl, s1, e1, by rw [List.range_zero, List.map_nil, List.append_nil]; exact dv1⟩ ?_ ?_
    · rintro j σ H2 hj ⟨y3, zs, rfl, s2, e2, dv2⟩
      walk_at "r"
      intro t ht
      walk_at "r"
      have hi6 : i < 6 := by omega
      have hj6 : j < 6 := by omega
      have lz : zs.length ≤ 42 := by
        have h1 : i * q ≤ 6 * 6 := Nat.mul_le_mul (by omega) hq
        rw [dv2.len, List.length_append, couplesD_len, List.length_map, List.length_range]; omega
      have tD : t ∉ [D] := fun m => by rw [List.mem_singleton.mp m, e2] at ht; cases ht
      refine Jv.r_app (Jv.kp e2 ht) (by omega) ?_
      refine ⟨_, _, rfl, fun c o hc => Jv.kpO (Jv.kp (s2 c o hc) ht) (ne_of_none hc hD), upd_same, ?_⟩
      rw [Jv.hide_upd, List.range_succ, List.map_append, ← List.append_assoc]
      refine Jv.DvAll.snoc (.tup (Jv.sqT_at (Jv.hide_at tD upd_same)) ?_) (dv2.same (Jv.hide_same (Jv.same_new ht)))
      rw [Int.zero_add, Int.zero_add]
      exact .cons (.int _) (.cons (.int _) .nil)
    · rintro σ H2 ⟨y3, zs, rfl, s2, e2, dv2⟩
      walk_at "r"
      refine ⟨_, _, zs, rfl, s2, e2, ?_⟩
      rw [couplesD_more]
      exact dv2
  · rintro σ H1 ⟨y2, y3, ys, rfl, s1, e1, dv1⟩
    walk_at "r"
    exact k D ys H1 s1 hD e1 (dv1.same Jv.hide_le)
end
end K07

namespace K07
open PySem PySem.Spec PyProof.Rows L2
/-! ### the law's own text -/
def numS (z : Int) : Str := toString z
def lineS (c : Nat × Nat) (zs : List Int) : Str := numS c.1 ++ Str.ofString " " ++ numS c.2 ++ Str.ofString ": " ++ Txt.join (Str.ofString " ") (zs.map numS)
def headS (l p q : Nat) (k0 k1 : Bool) : List Str := [Str.ofString "ladder " ++ numS l, Str.ofString "sides " ++ numS p ++ Str.ofString " " ++ numS q, Str.ofString "knows " ++ yesT k0 ++ Str.ofString " " ++ yesT k1]
def textS (l p q : Nat) (k0 k1 : Bool) (rows : List (List (List Int))) : List Str := headS l p q k0 k1 ++ (cpN p q).map fun c => lineS c ((rows.getD c.1 []).getD c.2 [])
theorem numS_small : ∀ n : Fin 2001, (numS ((n.val : Int) - 1000)).length ≤ 6 := by decide +kernel
theorem numS_len {z : Int} (h1 : -1000 ≤ z) (h2 : z ≤ 1000) : (numS z).length ≤ 6 := by
  have := numS_small ⟨(z + 1000).toNat, by omega⟩
  rw [show (((z + 1000).toNat : Nat) : Int) - 1000 = z by omega] at this
  exact this
theorem yesT_len (b : Bool) : (yesT b).length ≤ 3 := by cases b <;> decide +kernel
theorem app_len (a b : Str) : (a ++ b).length = a.length + b.length := by
  show (a.cps ++ b.cps).size = _
  rw [Array.size_append]; rfl
/-- the read-back of a number -/
theorem endF_small : ∀ n : Fin 2001, endF (numS ((n.val : Int) - 1000)).cps.toList = some ((n.val : Int) - 1000) := by decide +kernel
theorem endF_back {z : Int} (h1 : -1000 ≤ z) (h2 : z ≤ 1000) : endF (numS z).cps.toList = some z := by
  have := endF_small ⟨(z + 1000).toNat, by omega⟩
  rw [show (((z + 1000).toNat : Nat) : Int) - 1000 = z by omega] at this
  exact this
theorem numF_small : ∀ n : Fin 1001, numF (numS (n.val : Int)).cps.toList = some n.val := by decide +kernel
theorem numF_back {n : Nat} (h : n ≤ 1000) : numF (numS (n : Int)).cps.toList = some n := numF_small ⟨n, by omega⟩
/-- a number's text holds no sign of the separators -/
theorem numS_free : ∀ n : Fin 2001, (numS ((n.val : Int) - 1000)).cps.toList.all (fun c => decide (c ≠ 32 ∧ c ≠ 58 ∧ c ≠ 10)) = true := by decide +kernel
end K07

namespace K07
open PySem PySem.Spec PyProof.Rows L2
/-! ### the heads of the law's own text, read back -/
theorem wordsB_at {A B : List Str} {n : Nat} {head : Str} {many : Nat} (hA : n ≤ A.length) (hB : n ≤ B.length) (e : A.getD (n - 1) Str.empty = B.getD (n - 1) Str.empty) : wordsB A n head many = wordsB B n head many := by
  unfold wordsB
  rw [if_neg (show ¬ A.length < n by omega), if_neg (show ¬ B.length < n by omega), e]
theorem numsB_at {A B : List Str} {n : Nat} {head : Str} {many : Nat} (hA : n ≤ A.length) (hB : n ≤ B.length) (e : A.getD (n - 1) Str.empty = B.getD (n - 1) Str.empty) : numsB A n head many = numsB B n head many := by
  unfold numsB
  rw [wordsB_at hA hB e]
theorem ladB_cons {x : Str} {r : List Str} : ladB (x :: r) = ladB [x] := by
  unfold ladB
  rw [numsB_at (A := x :: r) (B := [x]) (by simp) (by simp) rfl]
theorem sidesB_cons {a x : Str} {r : List Str} : sidesB (a :: x :: r) = sidesB [Str.empty, x] := by
  unfold sidesB
  rw [numsB_at (A := a :: x :: r) (B := [Str.empty, x]) (by simp) (by simp) rfl]
theorem truB_cons {a b x : Str} {r : List Str} {head : Str} {many : Nat} : truB (a :: b :: x :: r) head many = truB [Str.empty, Str.empty, x] head many := by
  unfold truB
  rw [wordsB_at (A := a :: b :: x :: r) (B := [Str.empty, Str.empty, x]) (by simp) (by simp) rfl]
def okN {α : Type} [DecidableEq α] (e : Except Str α) (n : α) : Bool := match e with
  | .ok m => decide (m = n)
  | _ => false
theorem okN_is {α : Type} [DecidableEq α] {e : Except Str α} {n : α} (h : okN e n = true) : e = .ok n := by
  cases e with
  | error f => cases h
  | ok m => rw [of_decide_eq_true (show decide (m = n) = true from h)]
theorem lad_small : ∀ l : Fin 7, okN (ladB [Str.ofString "ladder " ++ numS (l.val : Int)]) l.val = true := by decide +kernel
theorem side_small : ∀ p q : Fin 7, sideB p.val q.val = true → okN (sidesB [Str.empty, Str.ofString "sides " ++ numS (p.val : Int) ++ Str.ofString " " ++ numS (q.val : Int)]) (p.val, q.val) = true := by decide +kernel
theorem tru_small : ∀ k0 k1 : Bool, okN (truB [Str.empty, Str.empty, Str.ofString "knows " ++ yesT k0 ++ Str.ofString " " ++ yesT k1] (Str.ofString "knows") 2) [k0, k1] = true := by decide +kernel
theorem head_back {l p q : Nat} {k0 k1 : Bool} {r : List Str} (hl : l ≤ 6) (hp : p ≤ 6) (hq : q ≤ 6) (hs : sideB p q = true) : ladB (headS l p q k0 k1 ++ r) = .ok l ∧ sidesB (headS l p q k0 k1 ++ r) = .ok (p, q) ∧ truB (headS l p q k0 k1 ++ r) (Str.ofString "knows") 2 = .ok [k0, k1] := by
  unfold headS
  refine ⟨?_, ?_, ?_⟩
  · rw [List.cons_append, ladB_cons]; exact okN_is (lad_small ⟨l, by omega⟩)
  · rw [List.cons_append, List.cons_append, sidesB_cons]; exact okN_is (side_small ⟨p, by omega⟩ ⟨q, by omega⟩ hs)
  · rw [List.cons_append, List.cons_append, List.cons_append, truB_cons]; exact okN_is (tru_small k0 k1)
end K07

namespace K07
open PySem PySem.Spec PyProof.Rows L2
/-! ### a couple's line of the law's own text, read back -/
theorem numS_not {z : Int} (h1 : -1000 ≤ z) (h2 : z ≤ 1000) : 32 ∉ (numS z).cps.toList ∧ 58 ∉ (numS z).cps.toList ∧ 10 ∉ (numS z).cps.toList := by
  have := numS_free ⟨(z + 1000).toNat, by omega⟩
  rw [show (((z + 1000).toNat : Nat) : Int) - 1000 = z by omega] at this
  have k := fun c hc => of_decide_eq_true (List.all_eq_true.mp this c hc)
  exact ⟨fun m => (k _ m).1 rfl, fun m => (k _ m).2.1 rfl, fun m => (k _ m).2.2 rfl⟩
theorem split_two {a b : Str} (ha : 32 ∉ a.cps.toList) (hb : 32 ∉ b.cps.toList) : Txt.split (a ++ Str.ofString " " ++ b) sepB = [a, b] := by
  have h := TL.split_join (y := sepB) (s := 32) (S := []) (by decide +kernel) (by decide +kernel) (parts := [a, b]) (by simp) (fun p hp => by
    rcases List.mem_cons.mp hp with rfl | hp
    · exact ha
    · rw [List.mem_singleton.mp hp]; exact hb)
  rw [TL.join_eq] at h
  exact h
theorem split_all {zs : List Int} (h0 : zs ≠ []) (h : ∀ z ∈ zs, -1000 ≤ z ∧ z ≤ 1000) : Txt.split (Txt.join (Str.ofString " ") (zs.map numS)) sepB = zs.map numS :=
  TL.split_join (y := sepB) (s := 32) (S := []) (by decide +kernel) (by decide +kernel) (by simpa using h0) fun p hp => by
    obtain ⟨z, hz, rfl⟩ := List.mem_map.mp hp
    exact (numS_not (h z hz).1 (h z hz).2).1
theorem app_list (a b : Str) : (a ++ b).cps.toList = a.cps.toList ++ b.cps.toList := by
  show (a.cps ++ b.cps).toList = _
  simp
theorem cut_line {c : Nat × Nat} {zs : List Int} (h1 : c.1 ≤ 1000) (h2 : c.2 ≤ 1000) : Txt.partition (lineS c zs) sepC = (numS c.1 ++ Str.ofString " " ++ numS c.2, sepC, Txt.join (Str.ofString " ") (zs.map numS)) := by
  unfold lineS
  refine TL.partition_app (y := sepC) (s := 58) (S := [32]) (by decide +kernel) ?_
  show 58 ∉ (numS c.1 ++ Str.ofString " " ++ numS c.2).cps.toList
  rw [app_list, app_list]
  have a := (numS_not (z := c.1) (by omega) (by omega)).2.1
  have b := (numS_not (z := c.2) (by omega) (by omega)).2.1
  have e : (Str.ofString " ").cps.toList = [32] := by decide +kernel
  rw [e]
  simp [a, b]
theorem line_back {c : Nat × Nat} {zs : List Int} (h1 : c.1 ≤ 1000) (h2 : c.2 ≤ 1000) (h0 : zs ≠ []) (h : ∀ z ∈ zs, -1000 ≤ z ∧ z ≤ 1000) : kindsOf (lineS c zs) = [some c.1, some c.2] ∧ endsIn (lineS c zs) = zs.map some ∧ intsIn (lineS c zs) = zs := by
  have a := (numS_not (z := c.1) (by omega) (by omega)).1
  have b := (numS_not (z := c.2) (by omega) (by omega)).1
  have e2 : endsIn (lineS c zs) = zs.map some := by
    unfold endsIn
    rw [cut_line h1 h2]
    show endsOf (Txt.split (Txt.join (Str.ofString " ") (zs.map numS)) sepB) = _
    rw [split_all h0 h]
    unfold endsOf
    rw [List.map_map]
    exact List.map_congr_left fun z hz => endF_back (h z hz).1 (h z hz).2
  refine ⟨?_, e2, ?_⟩
  · unfold kindsOf
    rw [cut_line h1 h2]
    show numsOf (Txt.split (numS c.1 ++ Str.ofString " " ++ numS c.2) sepB) = _
    rw [split_two a b]
    show [numF (numS c.1).cps.toList, numF (numS c.2).cps.toList] = _
    rw [numF_back h1, numF_back h2]
  · unfold intsIn
    rw [e2, List.map_map]
    have : ((fun o : Option Int => o.getD 0) ∘ some) = fun z : Int => z := rfl
    rw [this, List.map_id']
theorem endsB_line {lines : List Str} {n L : Nat} {c : Nat × Nat} {zs : List Int} (hn : 1 ≤ n) (e : lines[n - 1]? = some (lineS c zs)) (h1 : c.1 ≤ 1000) (h2 : c.2 ≤ 1000) (hL : L ≤ 1000) (g : GoodE L zs) : endsB lines n c.1 c.2 L = .ok zs := by
  obtain ⟨g0, g1, g2⟩ := g
  obtain ⟨a, b, d⟩ := line_back (c := c) h1 h2 g0 fun z hz => by have := g1 z hz; omega
  have hlen := (List.getElem?_eq_some_iff.mp e).1
  have eG : lines.getD (n - 1) Str.empty = lineS c zs := by rw [List.getD_eq_getElem?_getD, e]; rfl
  unfold endsB
  rw [if_neg (show ¬ lines.length < n by omega), eG, a, b, d]
  rw [if_neg (by simp), if_neg (by simp), if_neg (by
    rw [List.all_eq_true.mpr fun z hz => decide_eq_true (g1 z hz)]
    simp), if_pos g2]
end K07

namespace Jv
open PySem PySem.Spec PyProof.Rows L2
section
variable {K : PySem.W.Frag} {σ : L2.St} {H : Hp} {te : TE} {Q : VK} {xs : List V} {j : Nat} {x : V}
/-- over what an expression gives, a list or a tuple -/
theorem lcKe {te0 : TE} (hit : ∀ P : VK, P x H → te0 σ H P) (hx : Sk K H x xs) (f : V → V) (few : xs.length ≤ 1000)
    (hs : ∀ v H1, v ∈ xs → Same H H1 → ∀ P : VK, (∀ H2, Same H1 H2 → P (f v) H2) → te ((σ.set j none).set j (some v)) H1 P)
    (hd : ∀ D H1, Same H H1 → H D = none → H1 D = some (.lst (xs.map f)) → Q (.ref D) H1) : tLc (fun σ H R => iList K te0 σ H R ∨ iTup K te0 σ H R) (gName j) tYes te [j] σ H Q := by
  obtain ⟨a, rfl, h | h⟩ := hx
  · exact .inl (hit _ ⟨a, rfl, ⟨xs, h⟩, lcF walk_list (fun H' s => s.seq h) f few hs hd⟩)
  · exact .inr (hit _ ⟨a, rfl, ⟨xs, h⟩, lcF walk_tup (fun H' s => Jv.Same.sqT s h) f few hs hd⟩)
end
end Jv
namespace K07
open PySem PySem.Spec PyProof.Rows L2
/-! ### the lines of a goal's text -/
theorem log_small {z : Int} (h1 : -1000 ≤ z) (h2 : z ≤ 1000) : z.natAbs.log2 < 1920 := by
  by_cases h : z.natAbs = 0
  · rw [h]; decide
  · rw [Nat.log2_lt h]
    exact Nat.lt_of_lt_of_le (Nat.lt_of_le_of_lt (show z.natAbs ≤ 1000 by omega) (by decide : 1000 < 2 ^ 10)) (Nat.pow_le_pow_right (by decide) (by decide))
theorem sum_le {m : Nat} : ∀ {ys : List Str}, (∀ y ∈ ys, y.length ≤ m) → (ys.map (·.length)).sum ≤ m * ys.length
  | [], _ => Nat.le_refl _
  | a :: r, h => by
    have h1 := h a List.mem_cons_self
    have h2 := sum_le fun y hy => h y (List.mem_cons_of_mem _ hy)
    rw [List.map_cons, List.sum_cons, List.length_cons, Nat.mul_succ]
    omega
theorem join_len (sep : Str) : ∀ ys : List Str, (Txt.join sep ys).length ≤ (ys.map (·.length)).sum + ys.length * sep.length := fun ys => by
  rw [TL.join_eq]
  induction ys with
  | nil => exact Nat.zero_le _
  | cons a r ih =>
    cases r with
    | nil =>
      show a.length ≤ _
      rw [List.map_cons, List.sum_cons]; omega
    | cons b r =>
      show (a ++ sep ++ PySem.Str.join sep (b :: r)).length ≤ _
      rw [app_len, app_len, List.map_cons, List.sum_cons, List.length_cons, Nat.succ_mul]
      omega
def tailS (zs : List Int) : Str := Txt.join (Str.ofString " ") (zs.map numS)
def Few (zs : List Int) : Prop := zs.length ≤ 14 ∧ ∀ z ∈ zs, -1000 ≤ z ∧ z ≤ 1000
theorem tail_sum {zs : List Int} (h : Few zs) : ((zs.map numS).map (·.length)).sum ≤ 6 * zs.length := by
  have := sum_le (m := 6) (ys := zs.map numS) fun y hy => by
    obtain ⟨z, hz, rfl⟩ := List.mem_map.mp hy
    exact numS_len (h.2 z hz).1 (h.2 z hz).2
  rw [List.length_map] at this
  exact this
theorem tail_len {zs : List Int} (h : Few zs) : (tailS zs).length ≤ 7 * zs.length := by
  have h1 := join_len (Str.ofString " ") (zs.map numS)
  have h2 := tail_sum h
  rw [List.length_map, show (Str.ofString " ").length = 1 by decide +kernel] at h1
  unfold tailS
  omega
theorem few_wd {l : Int} {L : List (List (List Int))} {p q : Nat} (w : Wd l L p q) {line : List (List Int)} {ns : List Int} (h1 : line ∈ L) (h2 : ns ∈ line) : ns.length ≤ 13 ∧ (∀ n ∈ ns, -l ≤ n ∧ n ≤ l) ∧ Few ns := by
  obtain ⟨_, e⟩ := w.ends line h1 ns h2
  have a1 := w.l6
  have h3 : ns.length ≤ 13 := by
    rw [← e]
    have := List.length_filter_le (fun n => decide (n ∈ ns)) ((List.range (2 * l + 1).toNat).map fun (i : Nat) => (i : Int) - l)
    rw [List.length_map, List.length_range] at this
    unfold neatI
    omega
  have h4 := (w.range h1 h2).2
  exact ⟨h3, h4, by omega, fun n hn => by have := h4 n hn; omega⟩
theorem cell_wd {l : Int} {L : List (List (List Int))} {p q e f : Nat} (w : Wd l L p q) (he : e < p) (hf : f < q) : ∃ line zs, L[e]? = some line ∧ line[f]? = some zs ∧ line ∈ L ∧ zs ∈ line ∧ (L.getD e []).getD f [] = zs := by
  have he2 : e < L.length := by rw [w.hp]; exact he
  have m := List.getElem_mem he2
  have hf2 : f < (L[e]).length := by rw [w.hq _ m]; exact hf
  refine ⟨L[e], (L[e])[f], List.getElem?_eq_getElem he2, List.getElem?_eq_getElem hf2, m, List.getElem_mem hf2, ?_⟩
  have e1 : L.getD e [] = L[e] := by rw [List.getD_eq_getElem?_getD, List.getElem?_eq_getElem he2]; rfl
  rw [e1, List.getD_eq_getElem?_getD, List.getElem?_eq_getElem hf2]; rfl
theorem line_len {c : Nat × Nat} {zs : List Int} (h1 : c.1 ≤ 1000) (h2 : c.2 ≤ 1000) (h : Few zs) : (lineS c zs).length ≤ 15 + 7 * zs.length := by
  have a := numS_len (z := c.1) (by omega) (by omega)
  have b := numS_len (z := c.2) (by omega) (by omega)
  have d := tail_len h
  unfold tailS at d
  unfold lineS
  rw [app_len, app_len, app_len, app_len, show (Str.ofString " ").length = 1 by decide +kernel, show (Str.ofString ": ").length = 2 by decide +kernel]
  omega
theorem head_len {l p q : Nat} {k0 k1 : Bool} (hl : l ≤ 1000) (hp : p ≤ 1000) (hq : q ≤ 1000) : ∀ y ∈ headS l p q k0 k1, y.length ≤ 20 := fun y hy => by
  have a := numS_len (z := l) (by omega) (by omega)
  have b := numS_len (z := p) (by omega) (by omega)
  have c := numS_len (z := q) (by omega) (by omega)
  have d := yesT_len k0
  have e := yesT_len k1
  have o1 : (Str.ofString " ").length = 1 := by decide +kernel
  unfold headS at hy
  rcases List.mem_cons.mp hy with rfl | hy
  · rw [app_len, show (Str.ofString "ladder ").length = 7 by decide +kernel]; omega
  rcases List.mem_cons.mp hy with rfl | hy
  · rw [app_len, app_len, app_len, o1, show (Str.ofString "sides ").length = 6 by decide +kernel]; omega
  rw [List.mem_singleton.mp hy]
  rw [app_len, app_len, app_len, o1, show (Str.ofString "knows ").length = 6 by decide +kernel]; omega
theorem couples_cp (p q : Nat) : couplesD p q = (cpN p q).map fun c => cpD c.1 c.2 := by
  unfold couplesD cpN
  rw [List.map_flatMap]
  congr 1
  funext e
  rw [List.map_map]; rfl
theorem cp_at {K : PySem.W.Frag} {H : Hp} {ys : List V} {p q i : Nat} {v : V} (h : Jv.DvAll K H ys (couplesD p q)) (hv : ys[i]? = some v) : ∃ c u, (cpN p q)[i]? = some c ∧ v = .ref u ∧ SqT K H u [.int c.1, .int c.2] := by
  obtain ⟨d, h1, h2⟩ := h.at hv
  rw [couples_cp, List.getElem?_map] at h1
  obtain ⟨c, h3, rfl⟩ := Option.map_eq_some_iff.mp h1
  obtain ⟨xs, ⟨u, rfl, sq⟩, al⟩ := h2.sk rfl
  cases h2 with
  | tup hs hd =>
    refine ⟨c, u, h3, rfl, ?_⟩
    rw [Jv.dv_intsV (ns := [(c.1 : Int), (c.2 : Int)]) hd] at hs
    exact hs
end K07

namespace K07
open PySem PySem.Spec PyProof.Rows L2
/-! ### a text's first fault -/
def endsY (x : Str) (c0 c1 L : Nat) : Except Str (List Int) :=
    if (kindsOf x).length ≠ 2 ∨ (kindsOf x).any (·.isNone) = true ∨ (endsIn x).any (·.isNone) = true then .error (Str.ofString "form") else
      if (kindsOf x).map (fun o => ((o.getD 0 : Nat) : Int)) ≠ [(c0 : Int), (c1 : Int)] then .error (Str.ofString "couple") else
        if (intsIn x).all (fun z => decide (-(L : Int) ≤ z ∧ z ≤ L)) = false then .error (Str.ofString "range") else
          if (intsIn x).Pairwise (· < ·) then .ok (intsIn x) else .error (Str.ofString "order")
theorem endsB_y {lines : List Str} {n c0 c1 L : Nat} {x : Str} (hn : 1 ≤ n) (e : lines[n - 1]? = some x) : endsB lines n c0 c1 L = endsY x c0 c1 L := by
  have hlen := (List.getElem?_eq_some_iff.mp e).1
  have eG : lines.getD (n - 1) Str.empty = x := by rw [List.getD_eq_getElem?_getD, e]; rfl
  unfold endsB endsY
  rw [if_neg (show ¬ lines.length < n by omega), eG]
def cellN (L : List (List (List Int))) (c : Nat × Nat) : List Int := (L.getD c.1 []).getD c.2 []
theorem text_len {l p q : Nat} {k0 k1 : Bool} {L : List (List (List Int))} : (textS l p q k0 k1 L).length = 3 + p * q := by
  unfold textS
  rw [List.length_append, List.length_map, cpN_len]; rfl
theorem text_at {l p q i : Nat} {k0 k1 : Bool} {L : List (List (List Int))} {c : Nat × Nat} (h : (cpN p q)[i]? = some c) : (textS l p q k0 k1 L)[3 + i]? = some (lineS c (cellN L c)) := by
  unfold textS
  rw [List.getElem?_append_right (by show 3 ≤ 3 + i; omega), show 3 + i - (headS l p q k0 k1).length = i by show 3 + i - 3 = i; omega, List.getElem?_map, h]; rfl
theorem good_wd {L : List (List (List Int))} {l p q e f : Nat} (w : Wd l L p q) (he : e < p) (hf : f < q) : GoodE l (cellN L (e, f)) := by
  obtain ⟨line, zs, _, _, m1, m2, e1⟩ := cell_wd w he hf
  have e2 : cellN L (e, f) = zs := e1
  rw [e2]
  obtain ⟨a, b⟩ := w.ends line m1 zs m2
  refine ⟨a, (few_wd w m1 m2).2.1, ?_⟩
  rw [← b]; exact neat_sorted
/-- the rows of the couples' lines -/
def foldC (L : List (List (List Int))) : List (Nat × Nat) → List (List (List Int)) → List (List (List Int))
  | [], R => R
  | c :: cs, R => foldC L cs (R.modify c.1 (· ++ [cellN L c]))
theorem foldC_snoc {L : List (List (List Int))} {c : Nat × Nat} : ∀ {cs : List (Nat × Nat)} {R : List (List (List Int))}, foldC L (cs ++ [c]) R = (foldC L cs R).modify c.1 (· ++ [cellN L c])
  | [], _ => rfl
  | a :: cs, R => foldC_snoc (cs := cs) (R := R.modify a.1 (· ++ [cellN L a]))
theorem foldC_at {L : List (List (List Int))} : ∀ (cs : List (Nat × Nat)) (R : List (List (List Int))) (e : Nat), (foldC L cs R)[e]? = (R[e]?).map fun r => r ++ (cs.filter fun c => decide (c.1 = e)).map (cellN L)
  | [], R, e => by simp [foldC]
  | c :: cs, R, e => by
    rw [foldC, foldC_at cs, List.getElem?_modify, List.filter_cons]
    by_cases h : c.1 = e
    · cases R[e]? <;> simp [h]
    · cases R[e]? <;> simp [h]
theorem cp_filter {p q e : Nat} (h : e < p) : (cpN p q).filter (fun c => decide (c.1 = e)) = (List.range q).map fun j => (e, j) := by
  have key : ∀ (l : List Nat), l.Nodup → (l.flatMap fun i => (List.range q).map fun j => (i, j)).filter (fun c => decide (c.1 = e)) = if e ∈ l then (List.range q).map (fun j => (e, j)) else [] := fun l => by
    induction l with
    | nil => intro _; rfl
    | cons a r ih =>
      intro nd
      rw [List.nodup_cons] at nd
      rw [List.flatMap_cons, List.filter_append, ih nd.2]
      by_cases c : a = e
      · subst c
        rw [List.filter_eq_self.mpr (fun x hx => by obtain ⟨j, _, rfl⟩ := List.mem_map.mp hx; simp), if_neg nd.1, if_pos List.mem_cons_self, List.append_nil]
      · rw [List.filter_eq_nil_iff.mpr (fun x hx => by obtain ⟨j, _, rfl⟩ := List.mem_map.mp hx; simp [c])]
        have c' : ¬ e = a := fun z => c z.symm
        simp [c']
  have := key (List.range p) List.nodup_range
  rw [if_pos (List.mem_range.mpr h)] at this
  exact this
theorem foldC_all {L : List (List (List Int))} {l : Int} {p q : Nat} (wd : Wd l L p q) : foldC L (cpN p q) (List.replicate p []) = L := by
  refine List.ext_getElem? fun e => ?_
  rw [foldC_at, List.getElem?_replicate]
  by_cases h : e < p
  · rw [if_pos h, cp_filter h, List.map_map]
    have he2 : e < L.length := by rw [wd.hp]; exact h
    rw [List.getElem?_eq_getElem he2]
    show some ([] ++ _) = _
    congr 1
    rw [List.nil_append]
    refine List.ext_getElem? fun j => ?_
    have lq := wd.hq _ (List.getElem_mem he2)
    by_cases hj : j < q
    · rw [List.getElem?_map, List.getElem?_range hj, List.getElem?_eq_getElem (show j < L[e].length by omega)]
      have e1 : L.getD e [] = L[e] := by rw [List.getD_eq_getElem?_getD, List.getElem?_eq_getElem he2]; rfl
      show some ((L.getD e []).getD j []) = _
      rw [e1, List.getD_eq_getElem?_getD, List.getElem?_eq_getElem (show j < L[e].length by omega)]; rfl
    · rw [List.getElem?_eq_none (by simp; omega), List.getElem?_eq_none (by omega)]
  · rw [if_neg h, List.getElem?_eq_none (by rw [wd.hp]; omega)]; rfl
theorem cp_get {p q k : Nat} (h : k < p * q) : ∃ c, (cpN p q)[k]? = some c ∧ c.1 < p ∧ c.2 < q := by
  rw [← cpN_len] at h
  exact ⟨_, List.getElem?_eq_getElem h, cpN_mem (List.getElem_mem h)⟩
theorem fold_text {L : List (List (List Int))} {l p q : Nat} {k0 k1 : Bool} {B : List Str} (wd : Wd l L p q) : ∀ k, k ≤ p * q → (∀ i < 3 + k, B[i]? = (textS l p q k0 k1 L)[i]?) → foldB B l 3 ((cpN p q).take k) (List.replicate p []) = .ok (foldC L ((cpN p q).take k) (List.replicate p []))
  | 0, _, _ => rfl
  | k + 1, hk, hB => by
    obtain ⟨c, hc, ce, cf⟩ := cp_get (p := p) (q := q) (k := k) (by omega)
    have ih := fold_text wd k (by omega) fun i hi => hB i (by omega)
    have hl := wd.l6
    have hp := wd.p6
    have hq := wd.q6
    have e := foldB_next (e := c.1) (w := c.2) (n := 3) hc ih (endsB_line (L := l) (c := c) (zs := cellN L c) (n := 3 + k + 1) (by omega) (by rw [show 3 + k + 1 - 1 = 3 + k by omega, hB _ (by omega), text_at hc]) (by omega) (by omega) (by omega) (good_wd wd ce cf))
    rw [e, (take_next hc).2.1, foldC_snoc]
theorem side_wd {L : List (List (List Int))} {l : Int} {p q : Nat} (wd : Wd l L p q) : sideB p q = true := by
  have key : ∀ p q : Fin 7, 1 ≤ p.val → 1 ≤ q.val → p.val * q.val ≤ 12 → sideB p.val q.val = true := by decide +kernel
  have hp := wd.p6
  have hq := wd.q6
  exact key ⟨p, by omega⟩ ⟨q, by omega⟩ wd.p0 wd.q0 wd.pq
/-- the three heads, each in its own line -/
theorem heads {L : List (List (List Int))} {l p q : Nat} {k0 k1 : Bool} (wd : Wd l L p q) : ladB [Str.ofString "ladder " ++ numS l] = .ok l ∧ sidesB [Str.empty, Str.ofString "sides " ++ numS p ++ Str.ofString " " ++ numS q] = .ok (p, q) ∧ truB [Str.empty, Str.empty, Str.ofString "knows " ++ yesT k0 ++ Str.ofString " " ++ yesT k1] (Str.ofString "knows") 2 = .ok [k0, k1] := by
  have hl := wd.l6
  have hp := wd.p6
  have hq := wd.q6
  exact ⟨okN_is (lad_small ⟨l, by omega⟩), okN_is (side_small ⟨p, by omega⟩ ⟨q, by omega⟩ (side_wd wd)), okN_is (tru_small k0 k1)⟩
theorem heads_of {L : List (List (List Int))} {l p q : Nat} {k0 k1 : Bool} {B : List Str} (wd : Wd l L p q) (hB : ∀ i < 3, B[i]? = (textS l p q k0 k1 L)[i]?) : ladB B = .ok l ∧ sidesB B = .ok (p, q) ∧ truB B (Str.ofString "knows") 2 = .ok [k0, k1] := by
  obtain ⟨h1, h2, h3⟩ := heads (k0 := k0) (k1 := k1) wd
  have b0 : B[0]? = some (Str.ofString "ladder " ++ numS l) := hB 0 (by decide)
  have b1 : B[1]? = some (Str.ofString "sides " ++ numS p ++ Str.ofString " " ++ numS q) := hB 1 (by decide)
  have b2 : B[2]? = some (Str.ofString "knows " ++ yesT k0 ++ Str.ofString " " ++ yesT k1) := hB 2 (by decide)
  match B, b0, b1, b2 with
  | a :: b :: c :: r, b0, b1, b2 =>
    cases b0; cases b1; cases b2
    exact ⟨ladB_cons.trans h1, sidesB_cons.trans h2, truB_cons.trans h3⟩
theorem goal_upto {L : List (List (List Int))} {l p q : Nat} {k0 k1 : Bool} {B : List Str} (wd : Wd l L p q) (hB : ∀ i < 3, B[i]? = (textS l p q k0 k1 L)[i]?) : goalB B = match foldB B l 3 (cpN p q) (List.replicate p []) with
        | .error f => .error f
        | .ok R => if 3 + p * q < B.length then .error (4 + p * q, Str.ofString "more") else .ok ⟨l, R, [k0, k1]⟩ := by
  obtain ⟨h1, h2, h3⟩ := heads_of wd hB
  unfold goalB
  rw [h1]
  simp only [h2, h3]
  all_goals (cases foldB B l 3 (cpN p q) (List.replicate p []) <;> rfl)
theorem fold_all {L : List (List (List Int))} {l p q : Nat} {k0 k1 : Bool} {B : List Str} (wd : Wd l L p q) (hB : ∀ i < 3 + p * q, B[i]? = (textS l p q k0 k1 L)[i]?) : foldB B l 3 (cpN p q) (List.replicate p []) = .ok L := by
  have h := fold_text wd (p * q) (Nat.le_refl _) hB
  rw [← cpN_len p q, List.take_length, foldC_all wd] at h
  exact h
theorem goal_ok {L : List (List (List Int))} {l p q : Nat} {k0 k1 : Bool} (wd : Wd l L p q) : goalB (textS l p q k0 k1 L) = .ok ⟨l, L, [k0, k1]⟩ := by
  rw [goal_upto wd fun _ _ => rfl, fold_all wd fun _ _ => rfl]
  exact if_neg (by rw [text_len]; omega)
theorem goal_more {L : List (List (List Int))} {l p q : Nat} {k0 k1 : Bool} {m : Str} (wd : Wd l L p q) : goalB (textS l p q k0 k1 L ++ [m]) = .error (4 + p * q, Str.ofString "more") := by
  have key : ∀ i < 3 + p * q, (textS l p q k0 k1 L ++ [m])[i]? = (textS l p q k0 k1 L)[i]? := fun i hi => List.getElem?_append_left (by rw [text_len]; exact hi)
  rw [goal_upto wd fun i hi => key i (by omega), fold_all wd key]
  exact if_pos (by rw [List.length_append, text_len]; show _ < _ + 1; omega)
theorem words_few {A : List Str} {n : Nat} {head : Str} {many : Nat} (h : A.length < n) : wordsB A n head many = .error (Str.ofString "missing") := if_pos h
/-- the lines up to the a-th are the text's own; that one is wrong -/
def faultAt (l p q : Nat) (y : Str) (a : Nat) (f : Str) : Prop :=
  (a = 0 ∧ ladB [y] = .error f) ∨ (a = 1 ∧ sidesB [Str.empty, y] = .error f) ∨ (a = 2 ∧ truB [Str.empty, Str.empty, y] (Str.ofString "knows") 2 = .error f) ∨ ∃ i c, a = 3 + i ∧ (cpN p q)[i]? = some c ∧ endsY y c.1 c.2 l = .error f
theorem goal_bent {L : List (List (List Int))} {l p q a : Nat} {k0 k1 : Bool} {B : List Str} {y f : Str} (wd : Wd l L p q) (hB : ∀ i < a, B[i]? = (textS l p q k0 k1 L)[i]?) (hy : B[a]? = some y) (hf : faultAt l p q y a f) : goalB B = .error (a + 1, f) := by
  obtain ⟨h1, h2, h3⟩ := heads (k0 := k0) (k1 := k1) wd
  rcases hf with ⟨rfl, e⟩ | ⟨rfl, e⟩ | ⟨rfl, e⟩ | ⟨i, c, rfl, hc, e⟩
  · match B, hy with
    | b :: r, hy =>
      cases hy
      unfold goalB
      rw [ladB_cons, e]
  · have b0 : B[0]? = some (Str.ofString "ladder " ++ numS l) := hB 0 (by decide)
    match B, hy, b0 with
    | b :: b' :: r, hy, b0 =>
      cases hy; cases b0
      unfold goalB
      rw [ladB_cons, h1]
      simp only [sidesB_cons, e]
  · have b0 : B[0]? = some (Str.ofString "ladder " ++ numS l) := hB 0 (by decide)
    have b1 : B[1]? = some (Str.ofString "sides " ++ numS p ++ Str.ofString " " ++ numS q) := hB 1 (by decide)
    match B, hy, b0, b1 with
    | b :: b' :: b'' :: r, hy, b0, b1 =>
      cases hy; cases b0; cases b1
      unfold goalB
      rw [ladB_cons, h1]
      simp only [sidesB_cons, h2, truB_cons, e]
  · have hi : i < p * q := by rw [← cpN_len]; exact (List.getElem?_eq_some_iff.mp hc).1
    rw [goal_upto wd fun j hj => hB j (by omega), foldB_err (e := c.1) (w := c.2) hc (fold_text wd i (by omega) hB) (f := f) (by rw [endsB_y (x := y) (by omega) (by rw [show 3 + i + 1 - 1 = 3 + i by omega]; exact hy)]; exact e)]
theorem goal_short {L : List (List (List Int))} {l p q s : Nat} {k0 k1 : Bool} {B : List Str} (wd : Wd l L p q) (h0 : 1 ≤ s) (hs : s < 3 + p * q) (hl : B.length = s) (hB : ∀ i < s, B[i]? = (textS l p q k0 k1 L)[i]?) : goalB B = .error (s + 1, Str.ofString "missing") := by
  obtain ⟨h1, h2, h3⟩ := heads (k0 := k0) (k1 := k1) wd
  by_cases s1 : s = 1
  · subst s1
    have b0 : B[0]? = some (Str.ofString "ladder " ++ numS l) := hB 0 (by decide)
    match B, hl, b0 with
    | [b], _, b0 =>
      cases b0
      unfold goalB
      rw [h1]
      have : sidesB [Str.ofString "ladder " ++ numS l] = .error (Str.ofString "missing") := by
        unfold sidesB numsB
        rw [words_few (show 1 < 2 by decide)]
      simp only [this]
  by_cases s2 : s = 2
  · subst s2
    have b0 : B[0]? = some (Str.ofString "ladder " ++ numS l) := hB 0 (by decide)
    have b1 : B[1]? = some (Str.ofString "sides " ++ numS p ++ Str.ofString " " ++ numS q) := hB 1 (by decide)
    match B, hl, b0, b1 with
    | [b, b'], _, b0, b1 =>
      cases b0; cases b1
      unfold goalB
      rw [ladB_cons, h1]
      have : truB [Str.ofString "ladder " ++ numS l, Str.ofString "sides " ++ numS p ++ Str.ofString " " ++ numS q] (Str.ofString "knows") 2 = .error (Str.ofString "missing") := by
        unfold truB
        rw [words_few (show 2 < 3 by decide)]
      simp only [sidesB_cons, h2, this]
  obtain ⟨i, rfl⟩ : ∃ i, s = 3 + i := ⟨s - 3, by omega⟩
  obtain ⟨c, hc, _⟩ := cp_get (p := p) (q := q) (k := i) (by omega)
  rw [goal_upto wd fun j hj => hB j (by omega), foldB_err (e := c.1) (w := c.2) hc (fold_text wd i (by omega) hB) (f := Str.ofString "missing") (by unfold endsB; rw [if_pos (by omega)])]
end K07

namespace K07
open PySem PySem.Spec PyProof.Rows L2
/-! ### bent lines of a couple -/
theorem app_assoc (a b c : Str) : a ++ b ++ c = a ++ (b ++ c) := TL.ext_tl (by rw [TL.tl_append, TL.tl_append, TL.tl_append, TL.tl_append, List.append_assoc])
theorem join_one (a : Str) : Txt.join sepB [a] = a := by rw [TL.join_eq]; rfl
theorem join_cons (a : Str) {ws : List Str} (h : ws ≠ []) : Txt.join sepB (a :: ws) = a ++ sepB ++ Txt.join sepB ws := by
  rw [TL.join_eq, TL.join_eq]
  cases ws with
  | nil => exact absurd rfl h
  | cons b r => rfl
theorem join_snoc {w : Str} : ∀ {ws : List Str}, ws ≠ [] → Txt.join sepB (ws ++ [w]) = Txt.join sepB ws ++ sepB ++ w
  | [], h => absurd rfl h
  | [a], _ => by rw [List.cons_append, join_cons a (by simp), List.nil_append, join_one, join_one]
  | a :: b :: r, _ => by
    rw [List.cons_append, join_cons a (by simp), join_snoc (ws := b :: r) (by simp), join_cons a (ws := b :: r) (by simp), app_assoc, app_assoc, app_assoc, app_assoc, app_assoc]
theorem split_words {ws : List Str} (h0 : ws ≠ []) (h : ∀ w ∈ ws, 32 ∉ w.cps.toList) : Txt.split (Txt.join sepB ws) sepB = ws := TL.split_join (y := sepB) (s := 32) (S := []) (by decide +kernel) (by decide +kernel) h0 h
theorem cut_at {hd tl : Str} (h : 58 ∉ hd.cps.toList) : kindsOf (hd ++ Str.ofString ": " ++ tl) = numsOf (Txt.split hd sepB) ∧ endsIn (hd ++ Str.ofString ": " ++ tl) = endsOf (Txt.split tl sepB) := by
  have e : Txt.partition (hd ++ Str.ofString ": " ++ tl) sepC = (hd, sepC, tl) := TL.partition_app (y := sepC) (s := 58) (S := [32]) (by decide +kernel) h
  unfold kindsOf endsIn
  rw [e]
  exact ⟨rfl, rfl⟩
theorem endsY_ends {x : Str} {c0 c1 L : Nat} (h : (endsIn x).any (·.isNone) = true) : endsY x c0 c1 L = .error (Str.ofString "form") := if_pos (.inr (.inr h))
theorem endsY_head {x : Str} {c0 c1 L : Nat} (h : (kindsOf x).length ≠ 2 ∨ (kindsOf x).any (·.isNone) = true) : endsY x c0 c1 L = .error (Str.ofString "form") := if_pos (h.elim .inl fun h => .inr (.inl h))
theorem endsY_couple {x : Str} {c0 c1 L a b : Nat} (hk : kindsOf x = [some a, some b]) (he : (endsIn x).any (·.isNone) = false) (hn : b ≠ c1) : endsY x c0 c1 L = .error (Str.ofString "couple") := by
  unfold endsY
  rw [hk, he, if_neg (by simp), if_pos (by simp; omega)]
theorem endsY_some {x : Str} {c0 c1 L : Nat} {zs : List Int} (hk : kindsOf x = [some c0, some c1]) (he : endsIn x = zs.map some) : endsY x c0 c1 L = if zs.all (fun z => decide (-(L : Int) ≤ z ∧ z ≤ L)) = false then .error (Str.ofString "range") else if zs.Pairwise (· < ·) then .ok zs else .error (Str.ofString "order") := by
  have hi : intsIn x = zs := by
    unfold intsIn
    rw [he, List.map_map]
    exact List.map_id' zs
  unfold endsY
  rw [hk, he, hi, if_neg (by simp), if_neg (by simp)]
theorem endsY_range {x : Str} {c0 c1 L : Nat} {zs : List Int} {z : Int} (hk : kindsOf x = [some c0, some c1]) (he : endsIn x = zs.map some) (hz : z ∈ zs) (h : ¬ (-(L : Int) ≤ z ∧ z ≤ L)) : endsY x c0 c1 L = .error (Str.ofString "range") := by
  rw [endsY_some hk he, if_pos]
  rw [List.all_eq_false]
  exact ⟨z, hz, by simpa using h⟩
theorem endsY_order {x : Str} {c0 c1 L : Nat} {zs : List Int} (hk : kindsOf x = [some c0, some c1]) (he : endsIn x = zs.map some) (hz : ∀ z ∈ zs, -(L : Int) ≤ z ∧ z ≤ L) (h : ¬ zs.Pairwise (· < ·)) : endsY x c0 c1 L = .error (Str.ofString "order") := by
  rw [endsY_some hk he, if_neg (by rw [List.all_eq_true.mpr fun z hm => decide_eq_true (hz z hm)]; simp), if_neg h]
theorem mem_joinL {s : Nat} {S : List Nat} : ∀ {ps : List (List Nat)}, s ∈ TL.joinL S ps → s ∈ S ∨ ∃ p ∈ ps, s ∈ p
  | [], h => by cases h
  | [p], h => .inr ⟨p, List.mem_singleton.mpr rfl, h⟩
  | p :: q :: r, h => by
    rcases List.mem_append.mp h with h | h
    · exact .inr ⟨p, List.mem_cons_self, h⟩
    rcases List.mem_append.mp h with h | h
    · exact .inl h
    · rcases mem_joinL h with h | ⟨x, m, h⟩
      · exact .inl h
      · exact .inr ⟨x, List.mem_cons_of_mem _ m, h⟩
theorem tail_not {zs : List Int} {s : Nat} (h : Few zs) (hs : s = 58 ∨ s = 10) : s ∉ (tailS zs).cps.toList := fun m => by
  unfold tailS at m
  rw [TL.join_eq] at m
  have m2 : s ∈ TL.joinL (TL.tl (Str.ofString " ")) ((zs.map numS).map TL.tl) := by rw [← TL.tl_join]; exact m
  rcases mem_joinL m2 with m | ⟨x, mx, m⟩
  · rw [show TL.tl (Str.ofString " ") = [32] by decide +kernel] at m
    have := List.mem_singleton.mp m
    omega
  · obtain ⟨y, my, rfl⟩ := List.mem_map.mp mx
    obtain ⟨z, mz, rfl⟩ := List.mem_map.mp my
    have k := numS_not (h.2 z mz).1 (h.2 z mz).2
    rcases hs with rfl | rfl
    · exact k.2.1 m
    · exact k.2.2 m
theorem tail_split {zs : List Int} (h0 : zs ≠ []) (h : Few zs) : endsOf (Txt.split (tailS zs) sepB) = zs.map some := by
  unfold tailS
  rw [split_all h0 h.2]
  unfold endsOf
  rw [List.map_map]
  exact List.map_congr_left fun z hz => endF_back (h.2 z hz).1 (h.2 z hz).2
theorem somes_any {zs : List Int} : (zs.map some).any (·.isNone) = false := by simp
theorem tail_ends {zs : List Int} (h0 : zs ≠ []) (h : Few zs) : (endsOf (Txt.split (tailS zs) sepB)).any (·.isNone) = false := by rw [tail_split h0 h, somes_any]
theorem tail_snoc {zs : List Int} (h0 : zs ≠ []) (n : Int) : tailS zs ++ Str.ofString " " ++ numS n = tailS (zs ++ [n]) := by
  unfold tailS
  rw [List.map_append]
  exact (join_snoc (by simpa using h0)).symm
/-- an odd word makes an odd line -/
theorem words_odd {ws : List Str} (h : ∀ w ∈ ws, 32 ∉ w.cps.toList) {w : Str} (hw : w ∈ ws) (hn : endF w.cps.toList = none) : (endsOf (Txt.split (Txt.join sepB ws) sepB)).any (·.isNone) = true := by
  rw [split_words (fun e => by rw [e] at hw; cases hw) h]
  rw [List.any_eq_true]
  exact ⟨none, List.mem_map.mpr ⟨w, hw, hn⟩, rfl⟩
theorem num_words {zs : List Int} (h : Few zs) : ∀ w ∈ zs.map numS, 32 ∉ w.cps.toList := fun w hw => by
  obtain ⟨z, mz, rfl⟩ := List.mem_map.mp hw
  exact (numS_not (h.2 z mz).1 (h.2 z mz).2).1
/-- no separator: a colon, then no blank -/
theorem part_colon {A B : Str} (hA : 58 ∉ A.cps.toList) (hB : 58 ∉ B.cps.toList) (hb : ∀ c r, B.cps.toList = c :: r → c ≠ 32) : (endsIn (A ++ Str.ofString ":" ++ B)).any (·.isNone) = true := by
  have e0 : TL.par [58, 32] [] (TL.tl (A ++ Str.ofString ":" ++ B)) = none := by
    rw [TL.tl_append, TL.tl_append, show TL.tl (Str.ofString ":") = [58] by decide +kernel]
    refine TL.par_none fun i hi => ?_
    have hA' : 58 ∉ TL.tl A := hA
    have hB' : 58 ∉ TL.tl B := hB
    by_cases c1 : i < (TL.tl A).length
    · rw [List.append_assoc]
      exact TL.free_of hA' i c1
    by_cases c2 : i = (TL.tl A).length
    · subst c2
      rw [List.append_assoc, List.drop_left]
      cases e : TL.tl B with
      | nil => rfl
      | cons c r =>
        have := hb c r e
        show TL.pre [58, 32] (58 :: c :: r) = false
        unfold TL.pre
        simp [this]
    · have lA : (TL.tl A ++ [58]).length = (TL.tl A).length + 1 := by rw [List.length_append]; rfl
      obtain ⟨j, rfl⟩ : ∃ j, i = (TL.tl A ++ [58]).length + j := ⟨i - (TL.tl A ++ [58]).length, by omega⟩
      rw [← List.drop_drop, List.drop_left]
      have hj : j < (TL.tl B).length := by
        have e3 : (TL.tl A ++ [58] ++ TL.tl B).length = (TL.tl A ++ [58]).length + (TL.tl B).length := List.length_append
        omega
      have := TL.free_of (S := [32]) (q := []) hB' j hj
      rw [List.append_nil] at this
      exact this
  have e : Txt.partition (A ++ Str.ofString ":" ++ B) sepC = (A ++ Str.ofString ":" ++ B, Str.empty, Str.empty) := by
    rw [TL.partition_par _ sepC (by decide +kernel), show TL.tl sepC = [58, 32] by decide +kernel, e0]
  unfold endsIn
  rw [e]
  exact (by decide +kernel : (endsOf (Txt.split Str.empty sepB)).any (·.isNone) = true)
theorem part_none {A : Str} (hA : 58 ∉ A.cps.toList) : (endsIn A).any (·.isNone) = true := by
  unfold endsIn
  rw [TL.partition_none (y := sepC) (s := 58) (S := [32]) (by decide +kernel) hA]
  exact (by decide +kernel : (endsOf (Txt.split Str.empty sepB)).any (·.isNone) = true)
end K07

namespace K07
open PySem PySem.Spec PyProof.Rows L2
/-! ### the bent lines of a couple, one by one -/
theorem app_empty (a : Str) : a ++ Str.empty = a := TL.ext_tl (by rw [TL.tl_append]; exact List.append_nil _)
theorem empty_app (a : Str) : Str.empty ++ a = a := TL.ext_tl (by rw [TL.tl_append]; rfl)
theorem in_app {s : Nat} {a b : Str} (ha : s ∉ a.cps.toList) (hb : s ∉ b.cps.toList) : s ∉ (a ++ b).cps.toList := by
  rw [app_list]
  exact fun m => (List.mem_append.mp m).elim ha hb
theorem le_app {a b : Str} {m n : Nat} (ha : a.length ≤ m) (hb : b.length ≤ n) : (a ++ b).length ≤ m + n := by rw [app_len]; omega
def headC (a b : Nat) : Str := numS a ++ Str.ofString " " ++ numS b
theorem head_not {a b s : Nat} (ha : a ≤ 1000) (hb : b ≤ 1000) (hs : s = 58 ∨ s = 10) : s ∉ (headC a b).cps.toList := by
  have k0 := numS_not (z := a) (by omega) (by omega)
  have k1 := numS_not (z := b) (by omega) (by omega)
  unfold headC
  rcases hs with rfl | rfl
  · exact in_app (in_app k0.2.1 (by decide +kernel)) k1.2.1
  · exact in_app (in_app k0.2.2 (by decide +kernel)) k1.2.2
theorem head_kinds {a b : Nat} (ha : a ≤ 1000) (hb : b ≤ 1000) : numsOf (Txt.split (headC a b) sepB) = [some a, some b] := by
  unfold headC
  rw [split_two (numS_not (z := a) (by omega) (by omega)).1 (numS_not (z := b) (by omega) (by omega)).1]
  show [numF (numS a).cps.toList, numF (numS b).cps.toList] = _
  rw [numF_back ha, numF_back hb]
theorem head_lenC {a b : Nat} (ha : a ≤ 1000) (hb : b ≤ 1000) : (headC a b).length ≤ 13 := by
  have h1 := numS_len (z := a) (by omega) (by omega)
  have h2 := numS_len (z := b) (by omega) (by omega)
  unfold headC
  rw [app_len, app_len, show (Str.ofString " ").length = 1 by decide +kernel]
  omega
theorem odd_heads : ∀ a b : Fin 6, (numsOf (Txt.split (headC a b ++ Str.ofString " 0") sepB)).length ≠ 2 ∧ (numsOf (Txt.split (headC a b ++ Str.ofString " ") sepB)).length ≠ 2 ∧ (numsOf (Txt.split (Str.ofString "0" ++ headC a b) sepB)).any (·.isNone) = true ∧ (numsOf (Txt.split (numS a.val ++ Str.ofString "\t" ++ numS b.val) sepB)).length ≠ 2 := by decide +kernel
theorem num_one (z : Int) : numS z = tailS [z] := by unfold tailS; exact (join_one _).symm
theorem tail_head {zs : List Int} (h0 : zs ≠ []) (h : Few zs) : ∀ c r, (tailS zs).cps.toList = c :: r → c ≠ 32 := fun c r e => by
  cases zs with
  | nil => exact absurd rfl h0
  | cons z zr =>
    have k := numS_not (h.2 z List.mem_cons_self).1 (h.2 z List.mem_cons_self).2
    have b := endF_back (h.2 z List.mem_cons_self).1 (h.2 z List.mem_cons_self).2
    have e2 : ∃ R, (tailS (z :: zr)).cps.toList = (numS z).cps.toList ++ R := by
      unfold tailS
      cases zr with
      | nil => exact ⟨[], by rw [List.map_cons, List.map_nil]; show (Txt.join sepB [numS z]).cps.toList = _; rw [join_one, List.append_nil]⟩
      | cons y yr => exact ⟨_, by rw [List.map_cons]; show (Txt.join sepB (numS z :: (y :: yr).map numS)).cps.toList = _; rw [join_cons _ (by simp), app_list, app_list, List.append_assoc]⟩
    obtain ⟨R, e2⟩ := e2
    rw [e2] at e
    cases en : (numS z).cps.toList with
    | nil => rw [en] at b; cases b
    | cons a t =>
      rw [en] at e k
      cases e
      exact fun z => k.1 (by rw [z]; exact List.mem_cons_self)
structure Bent (c0 c1 l : Nat) (x : Str × Str) : Prop where
  e : endsY x.1 c0 c1 l = .error x.2
  nl : 10 ∉ x.1.cps.toList
  len : x.1.length ≤ 120
def bentL (H T S L1 Ln Z C0 C1 : Str) : List (Str × Str) :=
  [(S ++ Str.ofString ": " ++ T, Str.ofString "couple"), (S ++ Str.ofString ": " ++ L1, Str.ofString "couple"), (H ++ Str.ofString ": " ++ L1, Str.ofString "range")] ++
  [(H ++ Str.ofString ": " ++ T ++ Str.ofString " " ++ Ln, Str.ofString "range"), (H ++ Str.ofString ": " ++ T ++ Str.ofString " " ++ Z, Str.ofString "order")] ++
  [(H ++ Str.ofString ":" ++ T, Str.ofString "form"), (H ++ Str.ofString ": " ++ T ++ Str.ofString " ", Str.ofString "form"), (H ++ Str.ofString ":  " ++ T, Str.ofString "form"), (H ++ Str.ofString ": ", Str.ofString "form")] ++
  [(H ++ Str.ofString ": -0", Str.ofString "form"), (H ++ Str.ofString ": +1", Str.ofString "form"), (Str.ofString "", Str.ofString "form"), (H ++ Str.ofString " 0: " ++ T, Str.ofString "form"), (H, Str.ofString "form")] ++
  [(S ++ Str.ofString ": " ++ Z ++ Str.ofString " " ++ Z, Str.ofString "couple"), (H ++ Str.ofString ": 00", Str.ofString "form"), (H ++ Str.ofString ": 1000000", Str.ofString "form")] ++
  [(H ++ Str.ofString ": 999999", Str.ofString "range"), (Str.ofString "0" ++ H ++ Str.ofString ": " ++ T, Str.ofString "form"), (H ++ Str.ofString " : " ++ T, Str.ofString "form")] ++
  [(H ++ Str.ofString ":\t" ++ T, Str.ofString "form"), (C0 ++ Str.ofString "\t" ++ C1 ++ Str.ofString ": " ++ T, Str.ofString "form")]
theorem bent_all {c0 c1 l s : Nat} {zs : List Int} (h0 : c0 < 6) (h1 : c1 < 6) (hs : c1 < s) (s9 : s ≤ 1000) (hl : l ≤ 6) (g : GoodE l zs) (few : zs.length ≤ 13) :
    ∀ x ∈ bentL (headC c0 c1) (tailS zs) (headC c0 s) (numS ((l : Int) + 1)) (numS (-(l : Int) - 1)) (numS (zs.getD 0 0)) (numS c0) (numS c1), Bent c0 c1 l x := by
  obtain ⟨g0, g1, g2⟩ := g
  have fw : Few zs := ⟨by omega, fun z hz => by have := g1 z hz; omega⟩
  have mz : zs.getD 0 0 ∈ zs := by
    cases zs with
    | nil => exact absurd rfl g0
    | cons a r => exact List.mem_cons_self
  have rz := g1 _ mz
  have nH := head_not (a := c0) (b := c1) (s := 10) (by omega) (by omega) (.inr rfl)
  have nS := head_not (a := c0) (b := s) (s := 10) (by omega) (by omega) (.inr rfl)
  have kH := head_not (a := c0) (b := c1) (s := 58) (by omega) (by omega) (.inl rfl)
  have kS := head_not (a := c0) (b := s) (s := 58) (by omega) (by omega) (.inl rfl)
  have nT := tail_not fw (s := 10) (.inr rfl)
  have kT := tail_not fw (s := 58) (.inl rfl)
  have nL := (numS_not (z := (l : Int) + 1) (by omega) (by omega)).2.2
  have nN := (numS_not (z := -(l : Int) - 1) (by omega) (by omega)).2.2
  have nZ := (numS_not (z := zs.getD 0 0) (by omega) (by omega)).2.2
  have n0 := (numS_not (z := c0) (by omega) (by omega)).2
  have n1 := (numS_not (z := c1) (by omega) (by omega)).2
  have n01 := n0.2
  have n11 := n1.2
  have lH := head_lenC (a := c0) (b := c1) (by omega) (by omega)
  have lS := head_lenC (a := c0) (b := s) (by omega) (by omega)
  have lT := tail_len fw
  have lL := numS_len (z := (l : Int) + 1) (by omega) (by omega)
  have lN := numS_len (z := -(l : Int) - 1) (by omega) (by omega)
  have lZ := numS_len (z := zs.getD 0 0) (by omega) (by omega)
  have l0 := numS_len (z := c0) (by omega) (by omega)
  have l1 := numS_len (z := c1) (by omega) (by omega)
  have cS := fun t => cut_at (tl := t) kS
  have cH := fun t => cut_at (tl := t) kH
  have hkH := head_kinds (a := c0) (b := c1) (by omega) (by omega)
  have hkS := head_kinds (a := c0) (b := s) (by omega) (by omega)
  have oH := odd_heads ⟨c0, h0⟩ ⟨c1, h1⟩
  have fwL : Few [(l : Int) + 1] := ⟨Nat.le_of_ble_eq_true rfl, fun z hz => by rw [List.mem_singleton.mp hz]; omega⟩
  have fwN : Few (zs ++ [-(l : Int) - 1]) := ⟨by rw [List.length_append]; show _ + 1 ≤ _; omega, fun z hz => by
    rcases List.mem_append.mp hz with hz | hz
    · exact fw.2 z hz
    · rw [List.mem_singleton.mp hz]; omega⟩
  have fwZ : Few (zs ++ [zs.getD 0 0]) := ⟨by rw [List.length_append]; show _ + 1 ≤ _; omega, fun z hz => by
    rcases List.mem_append.mp hz with hz | hz
    · exact fw.2 z hz
    · rw [List.mem_singleton.mp hz]; omega⟩
  have fwZZ : Few ([zs.getD 0 0] ++ [zs.getD 0 0]) := ⟨Nat.le_of_ble_eq_true rfl, fun z hz => by
    rcases List.mem_append.mp hz with hz | hz <;> (rw [List.mem_singleton.mp hz]; omega)⟩
  have emp : (endsOf (Txt.split Str.empty sepB)).any (·.isNone) = true := by decide +kernel
  have b0 : Bent c0 c1 l (headC c0 s ++ Str.ofString ": " ++ tailS zs, Str.ofString "couple") := by
    refine ⟨?_, (in_app (in_app nS (by decide +kernel)) nT), Nat.le_trans (le_app (le_app lS (by decide +kernel : (Str.ofString ": ").length ≤ 2)) lT) (by omega)⟩
    show endsY (headC c0 s ++ Str.ofString ": " ++ tailS zs) c0 c1 l = .error (Str.ofString "couple")
    exact endsY_couple (by rw [(cS _).1]; exact hkS) (by rw [(cS _).2]; exact tail_ends g0 fw) (by omega)
  have b1 : Bent c0 c1 l (headC c0 s ++ Str.ofString ": " ++ numS ((l : Int) + 1), Str.ofString "couple") := by
    refine ⟨?_, (in_app (in_app nS (by decide +kernel)) nL), Nat.le_trans (le_app (le_app lS (by decide +kernel : (Str.ofString ": ").length ≤ 2)) lL) (by omega)⟩
    show endsY (headC c0 s ++ Str.ofString ": " ++ numS ((l : Int) + 1)) c0 c1 l = .error (Str.ofString "couple")
    rw [num_one]; exact endsY_couple (by rw [(cS _).1]; exact hkS) (by rw [(cS _).2]; exact tail_ends (by simp) fwL) (by omega)
  have b2 : Bent c0 c1 l (headC c0 c1 ++ Str.ofString ": " ++ numS ((l : Int) + 1), Str.ofString "range") := by
    refine ⟨?_, (in_app (in_app nH (by decide +kernel)) nL), Nat.le_trans (le_app (le_app lH (by decide +kernel : (Str.ofString ": ").length ≤ 2)) lL) (by omega)⟩
    show endsY (headC c0 c1 ++ Str.ofString ": " ++ numS ((l : Int) + 1)) c0 c1 l = .error (Str.ofString "range")
    rw [num_one]; exact endsY_range (by rw [(cH _).1]; exact hkH) (by rw [(cH _).2]; exact tail_split (by simp) fwL) List.mem_cons_self (by omega)
  have b3 : Bent c0 c1 l (headC c0 c1 ++ Str.ofString ": " ++ tailS zs ++ Str.ofString " " ++ numS (-(l : Int) - 1), Str.ofString "range") := by
    refine ⟨?_, (in_app (in_app (in_app (in_app nH (by decide +kernel)) nT) (by decide +kernel)) nN), Nat.le_trans (le_app (le_app (le_app (le_app lH (by decide +kernel : (Str.ofString ": ").length ≤ 2)) lT) (by decide +kernel : (Str.ofString " ").length ≤ 1)) lN) (by omega)⟩
    show endsY (headC c0 c1 ++ Str.ofString ": " ++ tailS zs ++ Str.ofString " " ++ numS (-(l : Int) - 1)) c0 c1 l = .error (Str.ofString "range")
    rw [app_assoc (headC c0 c1 ++ Str.ofString ": ") (tailS zs), app_assoc (headC c0 c1 ++ Str.ofString ": "), tail_snoc g0]; exact endsY_range (by rw [(cH _).1]; exact hkH) (by rw [(cH _).2]; exact tail_split (by simp) fwN) (List.mem_append_right _ List.mem_cons_self) (by omega)
  have b4 : Bent c0 c1 l (headC c0 c1 ++ Str.ofString ": " ++ tailS zs ++ Str.ofString " " ++ numS (zs.getD 0 0), Str.ofString "order") := by
    refine ⟨?_, (in_app (in_app (in_app (in_app nH (by decide +kernel)) nT) (by decide +kernel)) nZ), Nat.le_trans (le_app (le_app (le_app (le_app lH (by decide +kernel : (Str.ofString ": ").length ≤ 2)) lT) (by decide +kernel : (Str.ofString " ").length ≤ 1)) lZ) (by omega)⟩
    show endsY (headC c0 c1 ++ Str.ofString ": " ++ tailS zs ++ Str.ofString " " ++ numS (zs.getD 0 0)) c0 c1 l = .error (Str.ofString "order")
    rw [app_assoc (headC c0 c1 ++ Str.ofString ": ") (tailS zs), app_assoc (headC c0 c1 ++ Str.ofString ": "), tail_snoc g0]; exact endsY_order (by rw [(cH _).1]; exact hkH) (by rw [(cH _).2]; exact tail_split (by simp) fwZ) (fun z hz => (List.mem_append.mp hz).elim (g1 z) fun hz => by rw [List.mem_singleton.mp hz]; exact rz) (fun pw => by have := (List.pairwise_append.mp pw).2.2 _ mz _ List.mem_cons_self; omega)
  have b5 : Bent c0 c1 l (headC c0 c1 ++ Str.ofString ":" ++ tailS zs, Str.ofString "form") := by
    refine ⟨?_, (in_app (in_app nH (by decide +kernel)) nT), Nat.le_trans (le_app (le_app lH (by decide +kernel : (Str.ofString ":").length ≤ 1)) lT) (by omega)⟩
    show endsY (headC c0 c1 ++ Str.ofString ":" ++ tailS zs) c0 c1 l = .error (Str.ofString "form")
    exact endsY_ends (part_colon kH kT (tail_head g0 fw))
  have b6 : Bent c0 c1 l (headC c0 c1 ++ Str.ofString ": " ++ tailS zs ++ Str.ofString " ", Str.ofString "form") := by
    refine ⟨?_, (in_app (in_app (in_app nH (by decide +kernel)) nT) (by decide +kernel)), Nat.le_trans (le_app (le_app (le_app lH (by decide +kernel : (Str.ofString ": ").length ≤ 2)) lT) (by decide +kernel : (Str.ofString " ").length ≤ 1)) (by omega)⟩
    show endsY (headC c0 c1 ++ Str.ofString ": " ++ tailS zs ++ Str.ofString " ") c0 c1 l = .error (Str.ofString "form")
    rw [app_assoc (headC c0 c1 ++ Str.ofString ": ") (tailS zs)]; refine endsY_ends ?_; rw [(cH _).2, show tailS zs ++ Str.ofString " " = Txt.join sepB (zs.map numS ++ [Str.empty]) by rw [join_snoc (by simpa using g0), app_empty]; rfl]; exact words_odd (w := Str.empty) (fun w hw => (List.mem_append.mp hw).elim (num_words fw w) fun hw => by rw [List.mem_singleton.mp hw]; decide +kernel) (List.mem_append_right _ List.mem_cons_self) (by decide +kernel)
  have b7 : Bent c0 c1 l (headC c0 c1 ++ Str.ofString ":  " ++ tailS zs, Str.ofString "form") := by
    refine ⟨?_, (in_app (in_app nH (by decide +kernel)) nT), Nat.le_trans (le_app (le_app lH (by decide +kernel : (Str.ofString ":  ").length ≤ 3)) lT) (by omega)⟩
    show endsY (headC c0 c1 ++ Str.ofString ":  " ++ tailS zs) c0 c1 l = .error (Str.ofString "form")
    rw [show headC c0 c1 ++ Str.ofString ":  " ++ tailS zs = headC c0 c1 ++ Str.ofString ": " ++ (Str.ofString " " ++ tailS zs) by rw [app_assoc, app_assoc, ← app_assoc (Str.ofString ": "), show Str.ofString ": " ++ Str.ofString " " = Str.ofString ":  " by decide +kernel]]; refine endsY_ends ?_; rw [(cH _).2, show Str.ofString " " ++ tailS zs = Txt.join sepB (Str.empty :: zs.map numS) by rw [join_cons _ (by simpa using g0), empty_app]; rfl]; exact words_odd (w := Str.empty) (fun w hw => (List.mem_cons.mp hw).elim (fun hw => by rw [hw]; decide +kernel) (num_words fw w)) List.mem_cons_self (by decide +kernel)
  have b8 : Bent c0 c1 l (headC c0 c1 ++ Str.ofString ": ", Str.ofString "form") := by
    refine ⟨?_, (in_app nH (by decide +kernel)), Nat.le_trans (le_app lH (by decide +kernel : (Str.ofString ": ").length ≤ 2)) (by omega)⟩
    show endsY (headC c0 c1 ++ Str.ofString ": ") c0 c1 l = .error (Str.ofString "form")
    rw [← app_empty (headC c0 c1 ++ Str.ofString ": ")]; exact endsY_ends (by rw [(cH _).2]; exact emp)
  have b9 : Bent c0 c1 l (headC c0 c1 ++ Str.ofString ": -0", Str.ofString "form") := by
    refine ⟨?_, (in_app nH (by decide +kernel)), Nat.le_trans (le_app lH (by decide +kernel : (Str.ofString ": -0").length ≤ 4)) (by omega)⟩
    show endsY (headC c0 c1 ++ Str.ofString ": -0") c0 c1 l = .error (Str.ofString "form")
    rw [show headC c0 c1 ++ Str.ofString ": -0" = headC c0 c1 ++ Str.ofString ": " ++ Str.ofString "-0" by rw [app_assoc]; exact congrArg (headC c0 c1 ++ ·) (by decide +kernel)]; exact endsY_ends (by rw [(cH _).2]; decide +kernel)
  have b10 : Bent c0 c1 l (headC c0 c1 ++ Str.ofString ": +1", Str.ofString "form") := by
    refine ⟨?_, (in_app nH (by decide +kernel)), Nat.le_trans (le_app lH (by decide +kernel : (Str.ofString ": +1").length ≤ 4)) (by omega)⟩
    show endsY (headC c0 c1 ++ Str.ofString ": +1") c0 c1 l = .error (Str.ofString "form")
    rw [show headC c0 c1 ++ Str.ofString ": +1" = headC c0 c1 ++ Str.ofString ": " ++ Str.ofString "+1" by rw [app_assoc]; exact congrArg (headC c0 c1 ++ ·) (by decide +kernel)]; exact endsY_ends (by rw [(cH _).2]; decide +kernel)
  have b11 : Bent c0 c1 l (Str.ofString "", Str.ofString "form") := by
    refine ⟨?_, (by decide +kernel), Nat.le_trans (by decide +kernel : (Str.ofString "").length ≤ 0) (by omega)⟩
    show endsY (Str.ofString "") c0 c1 l = .error (Str.ofString "form")
    exact endsY_ends (part_none (by decide +kernel))
  have b12 : Bent c0 c1 l (headC c0 c1 ++ Str.ofString " 0: " ++ tailS zs, Str.ofString "form") := by
    refine ⟨?_, (in_app (in_app nH (by decide +kernel)) nT), Nat.le_trans (le_app (le_app lH (by decide +kernel : (Str.ofString " 0: ").length ≤ 4)) lT) (by omega)⟩
    show endsY (headC c0 c1 ++ Str.ofString " 0: " ++ tailS zs) c0 c1 l = .error (Str.ofString "form")
    rw [show headC c0 c1 ++ Str.ofString " 0: " = headC c0 c1 ++ Str.ofString " 0" ++ Str.ofString ": " by rw [app_assoc]; exact congrArg (headC c0 c1 ++ ·) (by decide +kernel)]; exact endsY_head (.inl (by rw [(cut_at (in_app kH (by decide +kernel))).1]; exact oH.1))
  have b13 : Bent c0 c1 l (headC c0 c1, Str.ofString "form") := by
    refine ⟨?_, nH, Nat.le_trans lH (by omega)⟩
    show endsY (headC c0 c1) c0 c1 l = .error (Str.ofString "form")
    exact endsY_ends (part_none kH)
  have b14 : Bent c0 c1 l (headC c0 s ++ Str.ofString ": " ++ numS (zs.getD 0 0) ++ Str.ofString " " ++ numS (zs.getD 0 0), Str.ofString "couple") := by
    refine ⟨?_, (in_app (in_app (in_app (in_app nS (by decide +kernel)) nZ) (by decide +kernel)) nZ), Nat.le_trans (le_app (le_app (le_app (le_app lS (by decide +kernel : (Str.ofString ": ").length ≤ 2)) lZ) (by decide +kernel : (Str.ofString " ").length ≤ 1)) lZ) (by omega)⟩
    show endsY (headC c0 s ++ Str.ofString ": " ++ numS (zs.getD 0 0) ++ Str.ofString " " ++ numS (zs.getD 0 0)) c0 c1 l = .error (Str.ofString "couple")
    rw [app_assoc (headC c0 s ++ Str.ofString ": ") (numS (zs.getD 0 0)), app_assoc (headC c0 s ++ Str.ofString ": "), show numS (zs.getD 0 0) ++ Str.ofString " " ++ numS (zs.getD 0 0) = tailS ([zs.getD 0 0] ++ [zs.getD 0 0]) by rw [← tail_snoc (by simp), ← num_one]]; exact endsY_couple (by rw [(cS _).1]; exact hkS) (by rw [(cS _).2]; exact tail_ends (by simp) fwZZ) (by omega)
  have b15 : Bent c0 c1 l (headC c0 c1 ++ Str.ofString ": 00", Str.ofString "form") := by
    refine ⟨?_, (in_app nH (by decide +kernel)), Nat.le_trans (le_app lH (by decide +kernel : (Str.ofString ": 00").length ≤ 4)) (by omega)⟩
    show endsY (headC c0 c1 ++ Str.ofString ": 00") c0 c1 l = .error (Str.ofString "form")
    rw [show headC c0 c1 ++ Str.ofString ": 00" = headC c0 c1 ++ Str.ofString ": " ++ Str.ofString "00" by rw [app_assoc]; exact congrArg (headC c0 c1 ++ ·) (by decide +kernel)]; exact endsY_ends (by rw [(cH _).2]; decide +kernel)
  have b16 : Bent c0 c1 l (headC c0 c1 ++ Str.ofString ": 1000000", Str.ofString "form") := by
    refine ⟨?_, (in_app nH (by decide +kernel)), Nat.le_trans (le_app lH (by decide +kernel : (Str.ofString ": 1000000").length ≤ 9)) (by omega)⟩
    show endsY (headC c0 c1 ++ Str.ofString ": 1000000") c0 c1 l = .error (Str.ofString "form")
    rw [show headC c0 c1 ++ Str.ofString ": 1000000" = headC c0 c1 ++ Str.ofString ": " ++ Str.ofString "1000000" by rw [app_assoc]; exact congrArg (headC c0 c1 ++ ·) (by decide +kernel)]; exact endsY_ends (by rw [(cH _).2]; decide +kernel)
  have b17 : Bent c0 c1 l (headC c0 c1 ++ Str.ofString ": 999999", Str.ofString "range") := by
    refine ⟨?_, (in_app nH (by decide +kernel)), Nat.le_trans (le_app lH (by decide +kernel : (Str.ofString ": 999999").length ≤ 8)) (by omega)⟩
    show endsY (headC c0 c1 ++ Str.ofString ": 999999") c0 c1 l = .error (Str.ofString "range")
    rw [show headC c0 c1 ++ Str.ofString ": 999999" = headC c0 c1 ++ Str.ofString ": " ++ Str.ofString "999999" by rw [app_assoc]; exact congrArg (headC c0 c1 ++ ·) (by decide +kernel)]; exact endsY_range (zs := [999999]) (by rw [(cH _).1]; exact hkH) (by rw [(cH _).2]; decide +kernel) List.mem_cons_self (by omega)
  have b18 : Bent c0 c1 l (Str.ofString "0" ++ headC c0 c1 ++ Str.ofString ": " ++ tailS zs, Str.ofString "form") := by
    refine ⟨?_, (in_app (in_app (in_app (by decide +kernel) nH) (by decide +kernel)) nT), Nat.le_trans (le_app (le_app (le_app (by decide +kernel : (Str.ofString "0").length ≤ 1) lH) (by decide +kernel : (Str.ofString ": ").length ≤ 2)) lT) (by omega)⟩
    show endsY (Str.ofString "0" ++ headC c0 c1 ++ Str.ofString ": " ++ tailS zs) c0 c1 l = .error (Str.ofString "form")
    exact endsY_head (.inr (by rw [(cut_at (in_app (by decide +kernel) kH)).1]; exact oH.2.2.1))
  have b19 : Bent c0 c1 l (headC c0 c1 ++ Str.ofString " : " ++ tailS zs, Str.ofString "form") := by
    refine ⟨?_, (in_app (in_app nH (by decide +kernel)) nT), Nat.le_trans (le_app (le_app lH (by decide +kernel : (Str.ofString " : ").length ≤ 3)) lT) (by omega)⟩
    show endsY (headC c0 c1 ++ Str.ofString " : " ++ tailS zs) c0 c1 l = .error (Str.ofString "form")
    rw [show headC c0 c1 ++ Str.ofString " : " = headC c0 c1 ++ Str.ofString " " ++ Str.ofString ": " by rw [app_assoc]; exact congrArg (headC c0 c1 ++ ·) (by decide +kernel)]; exact endsY_head (.inl (by rw [(cut_at (in_app kH (by decide +kernel))).1]; exact oH.2.1))
  have b20 : Bent c0 c1 l (headC c0 c1 ++ Str.ofString ":\t" ++ tailS zs, Str.ofString "form") := by
    refine ⟨?_, (in_app (in_app nH (by decide +kernel)) nT), Nat.le_trans (le_app (le_app lH (by decide +kernel : (Str.ofString ":\t").length ≤ 2)) lT) (by omega)⟩
    show endsY (headC c0 c1 ++ Str.ofString ":\t" ++ tailS zs) c0 c1 l = .error (Str.ofString "form")
    rw [show headC c0 c1 ++ Str.ofString ":\t" ++ tailS zs = headC c0 c1 ++ Str.ofString ":" ++ (Str.ofString "\t" ++ tailS zs) by rw [app_assoc, app_assoc, ← app_assoc (Str.ofString ":"), show Str.ofString ":" ++ Str.ofString "\t" = Str.ofString ":\t" by decide +kernel]]; exact endsY_ends (part_colon kH (in_app (by decide +kernel) kT) fun c r e => by rw [app_list, show (Str.ofString "\t").cps.toList = [9] by decide +kernel] at e; cases e; decide)
  have b21 : Bent c0 c1 l (numS c0 ++ Str.ofString "\t" ++ numS c1 ++ Str.ofString ": " ++ tailS zs, Str.ofString "form") := by
    refine ⟨?_, (in_app (in_app (in_app (in_app n01 (by decide +kernel)) n11) (by decide +kernel)) nT), Nat.le_trans (le_app (le_app (le_app (le_app l0 (by decide +kernel : (Str.ofString "\t").length ≤ 1)) l1) (by decide +kernel : (Str.ofString ": ").length ≤ 2)) lT) (by omega)⟩
    show endsY (numS c0 ++ Str.ofString "\t" ++ numS c1 ++ Str.ofString ": " ++ tailS zs) c0 c1 l = .error (Str.ofString "form")
    exact endsY_head (.inl (by rw [(cut_at (in_app (in_app n0.1 (by decide +kernel)) n1.1)).1]; exact oH.2.2.2))
  intro x hx
  simp only [bentL, List.cons_append, List.nil_append, List.mem_cons, List.not_mem_nil, or_false] at hx
  rcases hx with rfl | rfl | rfl | rfl | rfl | rfl | rfl | rfl | rfl | rfl | rfl | rfl | rfl | rfl | rfl | rfl | rfl | rfl | rfl | rfl | rfl | rfl
  · exact b0
  · exact b1
  · exact b2
  · exact b3
  · exact b4
  · exact b5
  · exact b6
  · exact b7
  · exact b8
  · exact b9
  · exact b10
  · exact b11
  · exact b12
  · exact b13
  · exact b14
  · exact b15
  · exact b16
  · exact b17
  · exact b18
  · exact b19
  · exact b20
  · exact b21
end K07

namespace K07
open PySem PySem.Spec PyProof.Rows L2
/-! ### the bent heads -/
def okE {α : Type} (e : Except Str α) (f : Str) : Bool := match e with
  | .error g => decide (g = f)
  | _ => false
theorem okE_is {α : Type} {e : Except Str α} {f : Str} (h : okE e f = true) : e = .error f := by
  cases e with
  | error g => rw [of_decide_eq_true (show decide (g = f) = true from h)]
  | ok m => cases h
def plain (y : Str) : Bool := y.cps.toList.all (fun c => decide (c ≠ 10)) && decide (y.length ≤ 120)
theorem plain_is {y : Str} (h : plain y = true) : 10 ∉ y.cps.toList ∧ y.length ≤ 120 := by
  obtain ⟨h1, h2⟩ := Bool.and_eq_true_iff.mp h
  exact ⟨fun m => of_decide_eq_true (List.all_eq_true.mp h1 _ m) rfl, of_decide_eq_true h2⟩
def fm (s : String) : Str × Str := (Str.ofString s, Str.ofString "form")
def rg (s : String) : Str × Str := (Str.ofString s, Str.ofString "range")
def top0 (y : Str) : List (Str × Str) :=
  [rg "ladder 7", fm "ladder 07", fm "ladder +1", fm "ladder  1", fm "ladder"] ++ [fm "ladder 1 ", fm "Ladder 1", fm "ladder -1", rg "ladder 999999"] ++
  [fm "ladder 1000000", fm "", fm "ladder 1 1", fm " ladder 1", fm "ladder x"] ++ [fm "ladder\t1", (y ++ Str.ofString "\t", Str.ofString "form")]
def top1 (y : Str) : List (Str × Str) :=
  [rg "sides 4 4", rg "sides 0 1", rg "sides 1 7", fm "sides 2", fm "sides 2 2 2"] ++ [fm "sides 2  2", fm "", fm "sides 02 2", fm "sides two 2", (y ++ Str.ofString " ", Str.ofString "form")]
def top2 (y : Str) : List (Str × Str) :=
  [fm "knows yes", fm "knows Yes no", fm "knows yes no yes", fm "knows yesno", fm ""] ++ [fm "knows yes  no", (y ++ Str.ofString " ", Str.ofString "form"), fm "know yes no", fm "knows 1 0", fm "knows"]
def hd0 (l : Nat) : Str := Str.ofString "ladder " ++ numS l
def hd1 (p q : Nat) : Str := Str.ofString "sides " ++ numS p ++ Str.ofString " " ++ numS q
def hd2 (k0 k1 : Bool) : Str := Str.ofString "knows " ++ yesT k0 ++ Str.ofString " " ++ yesT k1
theorem top0_small : ∀ l : Fin 7, (top0 (hd0 l.val)).all (fun x => okE (ladB [x.1]) x.2 && plain x.1) = true := by decide +kernel
theorem top1_small : ∀ p q : Fin 7, (top1 (hd1 p.val q.val)).all (fun x => okE (sidesB [Str.empty, x.1]) x.2 && plain x.1) = true := by decide +kernel
theorem top2_small : ∀ k0 k1 : Bool, (top2 (hd2 k0 k1)).all (fun x => okE (truB [Str.empty, Str.empty, x.1] (Str.ofString "knows") 2) x.2 && plain x.1) = true := by decide +kernel
/-- a bent line at its place -/
structure BentAt (l p q a : Nat) (x : Str × Str) : Prop where
  e : faultAt l p q x.1 a x.2
  nl : 10 ∉ x.1.cps.toList
  len : x.1.length ≤ 120
theorem top0_bent {l p q : Nat} (hl : l ≤ 6) : ∀ x ∈ top0 (hd0 l), BentAt l p q 0 x := fun x hx => by
  obtain ⟨h1, h2⟩ := Bool.and_eq_true_iff.mp (List.all_eq_true.mp (top0_small ⟨l, by omega⟩) x hx)
  exact ⟨.inl ⟨rfl, okE_is h1⟩, (plain_is h2).1, (plain_is h2).2⟩
theorem top1_bent {l p q : Nat} (hp : p ≤ 6) (hq : q ≤ 6) : ∀ x ∈ top1 (hd1 p q), BentAt l p q 1 x := fun x hx => by
  obtain ⟨h1, h2⟩ := Bool.and_eq_true_iff.mp (List.all_eq_true.mp (top1_small ⟨p, by omega⟩ ⟨q, by omega⟩) x hx)
  exact ⟨.inr (.inl ⟨rfl, okE_is h1⟩), (plain_is h2).1, (plain_is h2).2⟩
theorem top2_bent {l p q : Nat} {k0 k1 : Bool} : ∀ x ∈ top2 (hd2 k0 k1), BentAt l p q 2 x := fun x hx => by
  obtain ⟨h1, h2⟩ := Bool.and_eq_true_iff.mp (List.all_eq_true.mp (top2_small k0 k1) x hx)
  exact ⟨.inr (.inr (.inl ⟨rfl, okE_is h1⟩)), (plain_is h2).1, (plain_is h2).2⟩
end K07

namespace K07
open PySem PySem.Spec PyProof.Rows L2
/-! ### the law's own lines -/
theorem small2 {a b : Str} (ha : a.length ≤ 400) (hb : b.length ≤ 400) : a.length + b.length ≤ sizeLine := Jv.small_of (by omega)
theorem num400 {z : Int} (h1 : -1000 ≤ z) (h2 : z ≤ 1000) : (numS z).length ≤ 400 := Nat.le_trans (numS_len h1 h2) (by decide)
theorem yes400 (b : Bool) : (yesT b).length ≤ 400 := Nat.le_trans (yesT_len b) (by decide)
theorem app400 {a b : Str} {m n : Nat} (ha : a.length ≤ m) (hb : b.length ≤ n) (h : m + n ≤ 400) : (a ++ b).length ≤ 400 := Nat.le_trans (le_app ha hb) h
def strV : V → V
  | .int z => .str (numS z)
  | _ => .non
theorem strs_map (zs : List Int) : (zs.map V.int).map strV = (zs.map numS).map V.str := by
  rw [List.map_map, List.map_map]; rfl
theorem cell_sk {K : PySem.W.Frag} {H : Hp} {x : V} {L : List (List (List Int))} {l : Int} {p q e f : Nat} (h : Jv.Dv K H x (wantT L)) (w : Wd l L p q) (he : e < p) (hf : f < q) :
    ∃ us y xs v, Jv.Sk K H x us ∧ us[e]? = some y ∧ Jv.Sk K H y xs ∧ xs[f]? = some v ∧ Jv.Sk K H v ((cellN L (e, f)).map V.int) := by
  obtain ⟨line, zs, hL, hz, _, _, ec⟩ := cell_wd w he hf
  have e2 : cellN L (e, f) = zs := ec
  obtain ⟨us, sku, alu⟩ := h.sk rfl
  have lu := alu.len
  rw [List.length_map, w.hp] at lu
  have hu : us[e]? = some us[e] := List.getElem?_eq_getElem (by omega)
  obtain ⟨d, h1, h2⟩ := alu.at hu
  rw [List.getElem?_map, hL] at h1
  cases h1
  obtain ⟨xs, skx, alx⟩ := h2.sk rfl
  have lx := alx.len
  rw [List.length_map] at lx
  have hx : xs[f]? = some (xs[f]'(by rw [lx]; exact (List.getElem?_eq_some_iff.mp hz).1)) := List.getElem?_eq_getElem _
  obtain ⟨d, h3, h4⟩ := alx.at hx
  rw [List.getElem?_map, hz] at h3
  cases h3
  obtain ⟨ws, skw, alw⟩ := h4.sk rfl
  obtain rfl := Jv.dv_intsV alw
  rw [e2]
  exact ⟨us, _, xs, _, sku, hu, skx, hx, skw⟩
theorem join_small {zs : List Int} (h : Few zs) : ((zs.map numS).map (·.length)).sum + (zs.map numS).length * (Str.ofString " ").length ≤ 16777216 := by
  have := tail_sum h
  have h1 := h.1
  rw [List.length_map, show (Str.ofString " ").length = 1 by decide +kernel]
  omega
def sp_Ltext (K : PySem.W.Frag) : Sp := fun vs H Q _ => ∃ s k x L, ∃ l p q : Nat, ∃ k0 k1, vs = [.int l, .ref s, .ref k, x] ∧ H s = some (.tup [.int p, .int q]) ∧ H k = some (.tup [.bl k0, .bl k1]) ∧ Jv.Dv K H x (wantT L) ∧ Wd l L p q ∧
  ∀ D H', Same H H' → H D = none → H' D = some (.lst ((textS l p q k0 k1 L).map V.str)) → Q (.ref D) H'
section
variable {P : Program} {w : World} {K : PySem.W.Frag} {mg : Str → Option Value} {base : Heap}
theorem ok_Ltext (T : Tx) (O : Ok K mg T) : FnOk P w K mg base CX0 2 T.f_Ltext T.d_Ltext ["_law_ladder", "_law_sides", "_law_knows", "_law_wanted"] (sp_Ltext K) := by
  refine O.F_Ltext.ok sc_Ltext (fun vs H Q E h => by obtain ⟨_, _, _, _, _, _, _, _, _, rfl, _⟩ := h; rfl) (fun cdv A outer s H vs Q E hr h => ?_)
  obtain ⟨sa, ka, x, L, l, p, q, k0, k1, rfl, hsa, hka, hW, wd, kQ⟩ := h
  have hl := wd.l6
  have hp := wd.p6
  have hq := wd.q6
  have skS : ∀ {H' : Hp}, Same H H' → Jv.Sk K H' (.ref sa) [.int p, .int q] := fun s' => ⟨sa, rfl, .inr (Jv.sqT_at (s' _ _ hsa))⟩
  have skK : ∀ {H' : Hp}, Same H H' → Jv.Sk K H' (.ref ka) [.bl k0, .bl k1] := fun s' => ⟨ka, rfl, .inr (Jv.sqT_at (s' _ _ hka))⟩
  refine ⟨_, (pss_cons (ps_set (i := 4) sc_Ltext.nd rfl (Or.inl rfl) (pe_lst (pa_cons (pe_op op_add_str pe_str (pe_callTy call_str_int (by rfl) O.z_str (by decide +kernel) (pa_cons (pv 0) pa_nil))) (pa_cons (pe_op op_add_str (pe_op op_add_str (pe_op op_add_str pe_str (pe_callTy call_str_int (by rfl) O.z_str (by decide +kernel) (pa_cons (pe_ix (r := rIx K) ix_seq (pv 1) pe_int (fun _ _ => rfl)) pa_nil))) pe_str) (pe_callTy call_str_int (by rfl) O.z_str (by decide +kernel) (pa_cons (pe_ix (r := rIx K) ix_seq (pv 1) pe_int (fun _ _ => rfl)) pa_nil))) pa_nil))))
  (pss_cons (ps_expr (show PE _ _ (tBM K _ _ _ _) from pe_bm PySem.F.plainAttrs_list PySem.F.slot_list_append PySem.F.type_list_append mt_append (pv 4) (pa_cons (pe_op op_add_str (pe_op op_add_str (pe_op op_add_str pe_str (pe_call (ok_Lyes T O) (hr.mono (by decide)) (by rfl) O.m_Lyes O.F_Lyes.kp O.b_Lyes .nil pass0 (pa_cons (pe_ix (r := rIx K) ix_seq (pv 2) pe_int (fun _ _ => rfl)) pa_nil))) pe_str) (pe_call (ok_Lyes T O) (hr.mono (by decide)) (by rfl) O.m_Lyes O.F_Lyes.kp O.b_Lyes .nil pass0 (pa_cons (pe_ix (r := rIx K) ix_seq (pv 2) pe_int (fun _ _ => rfl)) pa_nil))) pa_nil)))
  (pss_cons (ps_for PassesOwn.never rfl (show PI _ _ _ (iList K _) from pi_list (pe_call (ok_Lcouples T O) (hr.mono (by decide)) (by rfl) O.m_Lcouples O.F_Lcouples.kp O.b_Lcouples .nil pass0 (pa_cons (pv 1) pa_nil))) (pg_name (i := 5) sc_Ltext.nd rfl (Or.inl rfl)) (pss_cons (ps_set (i := 6) sc_Ltext.nd rfl (Or.inl rfl) (pe_ix (r := rIx K) ix_seq (pe_ix (r := rIx K) ix_seq (pv 3) (pe_ix (r := rIx K) ix_seq (pv 5) pe_int (fun _ _ => rfl)) (fun _ _ => rfl)) (pe_ix (r := rIx K) ix_seq (pv 5) pe_int (fun _ _ => rfl)) (fun _ _ => rfl)))
  (pss_one (ps_expr (show PE _ _ (tBM K _ _ _ _) from pe_bm PySem.F.plainAttrs_list PySem.F.slot_list_append PySem.F.type_list_append mt_append (pv 4) (pa_cons (pe_op op_add_str (pe_op op_add_str (pe_op op_add_str (pe_op op_add_str (pe_callTy call_str_int (by rfl) O.z_str (by decide +kernel) (pa_cons (pe_ix (r := rIx K) ix_seq (pv 5) pe_int (fun _ _ => rfl)) pa_nil)) pe_str) (pe_callTy call_str_int (by rfl) O.z_str (by decide +kernel) (pa_cons (pe_ix (r := rIx K) ix_seq (pv 5) pe_int (fun _ _ => rfl)) pa_nil))) pe_str) (pe_join pe_str (pe_lc (own := [("_law_end", 7)]) (by rfl) sc_Ltext.nd (Jv.piOr (show PI _ _ _ (iList K _) from pi_list (pv 6)) (show PI _ _ _ (iTup K _) from pi_tup (pv 6))) (blkOk_by (own := [("_law_end", 7)]) (N := ["_law_ladder", "_law_sides", "_law_knows", "_law_wanted", "_law_lines", "_law_couple", "_law_ends_here", "_law_end"]) (sc := defScope s_Ltext) (scope := ({ kind := .function, names := [(".0", .local), ("_law_end", .local), ("str", .globalImplicit)], isGenerator := false, isCoroutine := false } : Scope)) (by decide +kernel)) (fun _ _ _ _ _ => (pg_name (i := 7) sc_Ltext.nd rfl (Or.inl rfl))) (fun _ _ _ _ _ => pts_nil) (fun _ _ _ _ _ => (pe_callTy call_str_int (by rfl) O.z_str (by decide +kernel) (pa_cons (pv 7) pa_nil)))))) pa_nil))))))
  (pss_one (ps_ret (pv 4)))))), ?_⟩
  have lL := numS_len (z := (l : Int)) (by omega) (by omega)
  have lP := numS_len (z := (p : Int)) (by omega) (by omega)
  have lQ := numS_len (z := (q : Int)) (by omega) (by omega)
  have o1 : (Str.ofString "sides ").length ≤ 6 := by decide +kernel
  have o2 : (Str.ofString "knows ").length ≤ 6 := by decide +kernel
  have o3 : (Str.ofString " ").length ≤ 1 := by decide +kernel
  walk_at "r"
  refine ⟨_, rfl, log_small (by omega) (by omega), ?_⟩
  refine ⟨_, _, rfl, rfl, small2 (by decide +kernel) (num400 (by omega) (by omega)), ?_⟩
  walk_at "r"
  refine (skS (Same.refl _)).ix (v := .int p) (by rfl) ?_
  walk_at "r"
  refine ⟨_, rfl, log_small (by omega) (by omega), ?_⟩
  refine ⟨_, _, rfl, rfl, small2 (by decide +kernel) (num400 (by omega) (by omega)), ?_⟩
  walk_at "r"
  refine ⟨_, _, rfl, rfl, small2 (app400 o1 lP (by decide)) (by decide +kernel), ?_⟩
  walk_at "r"
  refine (skS (Same.refl _)).ix (v := .int q) (by rfl) ?_
  walk_at "r"
  refine ⟨_, rfl, log_small (by omega) (by omega), ?_⟩
  refine ⟨_, _, rfl, rfl, small2 (app400 (le_app o1 lP) o3 (by decide)) (num400 (by omega) (by omega)), ?_⟩
  walk_at "r"
  intro D hD
  have sD := Jv.same_new (u := .lst [.str (hd0 l), .str (hd1 p q)]) hD
  have eD : upd H D (.lst [.str (hd0 l), .str (hd1 p q)]) D = some (.lst [.str (hd0 l), .str (hd1 p q)]) := upd_same
  change tSeq _ _ _ _ (upd H D (.lst [.str (hd0 l), .str (hd1 p q)]))
  generalize upd H D (.lst [.str (hd0 l), .str (hd1 p q)]) = H1 at sD eD ⊢
  walk_at "r"
  refine (skK sD).ix (v := .bl k0) (by rfl) ?_
  walk_at "r"
  refine ⟨k0, rfl, ?_⟩
  refine ⟨_, _, rfl, rfl, small2 (by decide +kernel) (yes400 _), ?_⟩
  walk_at "r"
  refine ⟨_, _, rfl, rfl, small2 (app400 o2 (yesT_len k0) (by decide)) (by decide +kernel), ?_⟩
  walk_at "r"
  refine (skK sD).ix (v := .bl k1) (by rfl) ?_
  walk_at "r"
  refine ⟨k1, rfl, ?_⟩
  refine ⟨_, _, rfl, rfl, small2 (app400 (le_app o2 (yesT_len k0)) o3 (by decide)) (yes400 _), ?_⟩
  walk_at "r"
  refine Jv.r_app eD (by show 2 < 1000; decide) ?_
  have e2 : upd H1 D (.lst ((headS l p q k0 k1).map V.str)) D = some (.lst ((headS l p q k0 k1).map V.str)) := upd_same
  have s2 : Same H (upd H1 D (.lst ((headS l p q k0 k1).map V.str))) := fun c o hc => Jv.kpO (sD c o hc) (ne_of_none hc hD)
  change tNext _ _ (upd H1 D (.lst ((headS l p q k0 k1).map V.str)))
  generalize upd H1 D (.lst ((headS l p q k0 k1).map V.str)) = H2 at e2 s2 ⊢
  walk_at "r"
  refine ⟨sa, p, q, rfl, s2 _ _ hsa, ⟨hp, hq⟩, fun D2 ys H3 s3 nD2 e3 dv => ?_⟩
  have nDD : D2 ≠ D := fun e => by rw [e, e2] at nD2; cases nD2
  have e3D := s3 _ _ e2
  have sH3 := s2.trans s3
  have lys := dv.len
  rw [couplesD_len] at lys
  refine ⟨D2, rfl, ⟨ys, Jv.sqL_at e3⟩, for_list (xs := ys) (fun j σ H' => ∃ y5 y6, σ = [some (.int l), some (.ref sa), some (.ref ka), some x, some (.ref D), y5, y6, none] ∧ Same H H' ∧ H' D = some (.lst ((headS l p q k0 k1 ++ ((cpN p q).take j).map fun c => lineS c (cellN L c)).map V.str)) ∧ Same (Jv.hide [D] H3) H')
    ⟨_, _, rfl, sH3, by rw [List.take_zero, List.map_nil, List.append_nil]; exact e3D, Jv.hide_le⟩ (fun j σ' H' _ ⟨_, _, _, _, _, k⟩ => Jv.sqL_at (k _ _ (Jv.hide_at (fun m => nDD (List.mem_singleton.mp m)) e3))) ?_ ?_⟩
  · rintro j v σ H' hv ⟨y5, y6, rfl, sH, eL, kH⟩
    obtain ⟨c, u, hc, rfl, sq⟩ := cp_at dv hv
    obtain ⟨ce, cf⟩ := cpN_mem (List.mem_of_getElem? hc)
    have sq' : SqT K H' u [.int c.1, .int c.2] := Jv.Same.sqT kH (Jv.sqT_hide (fun b m => by rw [List.mem_singleton.mp m]; exact ⟨_, e3D⟩) sq)
    have sku : Jv.Sk K H' (.ref u) [.int c.1, .int c.2] := ⟨u, rfl, .inr sq'⟩
    obtain ⟨us, y, xs, v, w1, w2, w3, w4, w5⟩ := cell_sk (hW.same sH) wd ce cf
    walk_at "r"
    refine sku.ix (v := .int c.1) (by rfl) ?_
    refine w1.ix (Jv.at_i (by omega) (by rw [Int.toNat_natCast]; exact w2)) ?_
    walk_at "r"
    refine sku.ix (v := .int c.2) (by rfl) ?_
    refine w3.ix (Jv.at_i (by omega) (by rw [Int.toNat_natCast]; exact w4)) ?_
    walk_at "r"
    have lc1 := numS_len (z := (c.1 : Int)) (by omega) (by omega)
    have lc2 := numS_len (z := (c.2 : Int)) (by omega) (by omega)
    refine sku.ix (v := .int c.1) (by rfl) ?_
    walk_at "r"
    refine ⟨_, rfl, log_small (by omega) (by omega), ?_⟩
    refine ⟨_, _, rfl, rfl, small2 (num400 (by omega) (by omega)) (by decide +kernel), ?_⟩
    walk_at "r"
    refine sku.ix (v := .int c.2) (by rfl) ?_
    walk_at "r"
    refine ⟨_, rfl, log_small (by omega) (by omega), ?_⟩
    refine ⟨_, _, rfl, rfl, small2 (app400 lc1 o3 (by decide)) (num400 (by omega) (by omega)), ?_⟩
    walk_at "r"
    refine ⟨_, _, rfl, rfl, small2 (app400 (le_app lc1 o3) lc2 (by decide)) (by decide +kernel), ?_⟩
    walk_at "r"
    refine Jv.r_m1 ?_
    walk_at "r"
    refine ⟨⟨_, rfl⟩, ?_⟩
    obtain ⟨line, zs, _, _, m1, m2, ec⟩ := cell_wd wd ce cf
    obtain ⟨fz, rz, fw⟩ := few_wd wd m1 m2
    have ec2 : cellN L (c.1, c.2) = zs := ec
    rw [ec2] at w5
    refine Jv.lcK (i := 6) (by rfl) w5 strV (by rw [List.length_map]; omega) (fun v H5 hv s5 P hP => ?_) (fun D5 H5 s5 hD5 e5 => ?_)
    · obtain ⟨z, hz, rfl⟩ := List.mem_map.mp hv
      have := fw.2 z hz
      walk_at "r"
      refine ⟨_, rfl, log_small (by omega) (by omega), ?_⟩
      exact hP _ (Same.refl _)
    · rw [strs_map] at e5
      refine ⟨_, D5, zs.map numS, rfl, rfl, .inl (Jv.sqL_at e5), join_small fw, ?_⟩
      have lt := tail_len fw
      have lhd : (numS (c.1 : Nat) ++ Str.ofString " " ++ numS (c.2 : Nat) ++ Str.ofString ": ").length ≤ 15 := by
        have := le_app (le_app (le_app lc1 o3) lc2) (by decide +kernel : (Str.ofString ": ").length ≤ 2)
        omega
      refine ⟨_, _, rfl, rfl, small2 (Nat.le_trans lhd (by decide)) (Nat.le_trans lt (by omega)), ?_⟩
      walk_at "r"
      have eL5 := s5 _ _ eL
      refine Jv.r_app eL5 (by rw [List.length_map, List.length_append, List.length_map, List.length_take, cpN_len]; show 3 + _ < 1000; have := wd.pq; omega) ?_
      walk_at "r"
      refine ⟨_, _, rfl, fun b o hb => Jv.kpO (s5 _ _ (sH _ _ hb)) (ne_of_none hb hD), ?_, fun b o hb => ?_⟩
      · rw [upd_same, (take_next hc).2.1, ← ec2]
        simp only [List.map_append, List.append_assoc]
        rfl
      · obtain ⟨n, e6⟩ := Jv.hide_some hb
        exact Jv.kpO (s5 _ _ (kH _ _ hb)) (fun z => n (by rw [z]; exact List.mem_singleton.mpr rfl))
  · rintro σ H' ⟨y5, y6, rfl, sH, eL, kH⟩
    walk_at "r"
    rw [lys, ← cpN_len p q, List.take_length] at eL
    exact kQ D H' sH hD eL
end
end K07

namespace K07
open PySem PySem.Spec PyProof.Rows L2
/-! ### goals_text -/
section
variable {σ : L2.St} {H : Hp} {te : TE} {ts : List TE} {acc a : Str} {Q : Str → Hp → Prop}
theorem r_jnil (q : Q acc H) : tJs [] acc σ H Q := q
theorem r_jC0 (hz : a.length ≤ 900) (q : tJs ts a σ H Q) : tJs (tC (.str a) :: ts) Str.empty σ H Q := ⟨a, rfl, by rw [empty_app]; exact Jv.small_of (by omega), by rw [empty_app]; exact q⟩
theorem r_jC (hz : acc.length + a.length ≤ 900) (q : tJs ts (acc ++ a) σ H Q) : tJs (tC (.str a) :: ts) acc σ H Q := ⟨a, rfl, by rw [app_len]; exact Jv.small_of (by omega), q⟩
theorem r_jcons {t : TE} (h : t σ H fun x H1 => ∃ y : Str, x = .str y ∧ (acc ++ y).length ≤ sizeLine ∧ tJs ts (acc ++ y) σ H1 Q) : tJs (t :: ts) acc σ H Q := h
theorem r_fmt {Q : VK} (h : te σ H fun x H1 => (∃ y : Str, x = .str y ∧ y.length ≤ sizeLine ∧ Q (.str y) H1) ∨ ∃ i : Int, x = .int i ∧ i.natAbs.log2 < 1920 ∧ Q (.str (toString i)) H1) : tFmt te σ H Q := h
theorem r_fi {z : Int} (h1 : -1000 ≤ z) (h2 : z ≤ 1000) (hz : acc.length ≤ 900) (q : tJs ts (acc ++ numS z) σ H Q) : (∃ y : Str, V.int z = .str y ∧ y.length ≤ sizeLine ∧ ∃ y_1 : Str, V.str y = .str y_1 ∧ (acc ++ y_1).length ≤ sizeLine ∧ tJs ts (acc ++ y_1) σ H Q) ∨ ∃ i : Int, V.int z = .int i ∧ i.natAbs.log2 < 1920 ∧ ∃ y : Str, V.str (toString i) = .str y ∧ (acc ++ y).length ≤ sizeLine ∧ tJs ts (acc ++ y) σ H Q := by
  have := numS_len h1 h2
  exact .inr ⟨z, rfl, log_small h1 h2, numS z, rfl, by rw [app_len]; exact Jv.small_of (by omega), q⟩
theorem r_fs {y : Str} (hz : acc.length + y.length ≤ 900) (q : tJs ts (acc ++ y) σ H Q) : (∃ y_1 : Str, V.str y = .str y_1 ∧ y_1.length ≤ sizeLine ∧ ∃ y_2 : Str, V.str y_1 = .str y_2 ∧ (acc ++ y_2).length ≤ sizeLine ∧ tJs ts (acc ++ y_2) σ H Q) ∨ ∃ i : Int, V.str y = .int i ∧ i.natAbs.log2 < 1920 ∧ ∃ y : Str, V.str (toString i) = .str y ∧ (acc ++ y).length ≤ sizeLine ∧ tJs ts (acc ++ y) σ H Q :=
  .inl ⟨y, rfl, Jv.small_of (by omega), y, rfl, by rw [app_len]; exact Jv.small_of (by omega), q⟩
end
theorem yes_not (b : Bool) : 10 ∉ (yesT b).cps.toList := by cases b <;> decide +kernel
/-- each line of the law's text -/
theorem text_ok {L : List (List (List Int))} {l p q : Nat} {k0 k1 : Bool} (wd : Wd l L p q) : ∀ y ∈ textS l p q k0 k1 L, 10 ∉ y.cps.toList ∧ y.length ≤ 106 := fun y hy => by
  have hl := wd.l6
  have hp := wd.p6
  have hq := wd.q6
  rcases List.mem_append.mp hy with hy | hy
  · refine ⟨?_, Nat.le_trans (head_len (by omega) (by omega) (by omega) y hy) (by decide)⟩
    have a := (numS_not (z := (l : Int)) (by omega) (by omega)).2.2
    have b := (numS_not (z := (p : Int)) (by omega) (by omega)).2.2
    have c := (numS_not (z := (q : Int)) (by omega) (by omega)).2.2
    unfold headS at hy
    rcases List.mem_cons.mp hy with rfl | hy
    · exact in_app (by decide +kernel) a
    rcases List.mem_cons.mp hy with rfl | hy
    · exact in_app (in_app (in_app (by decide +kernel) b) (by decide +kernel)) c
    rw [List.mem_singleton.mp hy]
    exact in_app (in_app (in_app (by decide +kernel) (yes_not _)) (by decide +kernel)) (yes_not _)
  · obtain ⟨c, hc, rfl⟩ := List.mem_map.mp hy
    obtain ⟨ce, cf⟩ := cpN_mem hc
    obtain ⟨line, zs, _, _, m1, m2, ec⟩ := cell_wd wd ce cf
    obtain ⟨fz, rz, fw⟩ := few_wd wd m1 m2
    rw [ec]
    refine ⟨?_, Nat.le_trans (line_len (by omega) (by omega) fw) (by omega)⟩
    have a := (numS_not (z := (c.1 : Int)) (by omega) (by omega)).2.2
    have b := (numS_not (z := (c.2 : Int)) (by omega) (by omega)).2.2
    exact in_app (in_app (in_app (in_app a (by decide +kernel)) b) (by decide +kernel)) (tail_not fw (.inr rfl))
theorem join_big {ys : List Str} (h : ys.length ≤ 16) (w : ∀ y ∈ ys, y.length ≤ 120) : (ys.map (·.length)).sum + ys.length * nlT.length ≤ 16777216 := by
  have := sum_le w
  rw [show nlT.length = 1 by decide +kernel]
  omega
def sp_goals_text (K : PySem.W.Frag) (C : Addr) : Sp := fun vs H Q _ => ∃ a L, ∃ l p q : Nat, ∃ k0 k1, vs = [.ref a] ∧ GAt K H C a l (wantT L) k0 k1 p q ∧ Wd l L p q ∧
  ∀ H', Same H H' → Q (.str (Txt.join nlT (textS l p q k0 k1 L))) H'
section
variable {P : Program} {w : World} {K : PySem.W.Frag} {mg : Str → Option Value} {base : Heap}
theorem ok_goals_text (T : Tx) (O : Ok K mg T) : FnOk P w K mg base CX0 2 T.f_goals_text T.d_goals_text ["goals"] (sp_goals_text K T.C_Goals) := by
  refine O.F_goals_text.ok sc_goals_text (fun vs H Q E h => by obtain ⟨_, _, _, _, _, _, _, rfl, _⟩ := h; rfl) (fun cdv A outer s H vs Q E hr h => ?_)
  obtain ⟨a, L, l, p, q, k0, k1, rfl, hg, wd, kQ⟩ := h
  obtain ⟨dx, wv, kv, sv, hga, hW, hK, hS⟩ := id hg
  have hl := wd.l6
  have hp := wd.p6
  have hq := wd.q6
  obtain ⟨ss, skS, alS⟩ := hS.sk rfl
  obtain rfl := Jv.dv_intsV (ns := [(p : Int), (q : Int)]) alS
  obtain ⟨ks, skK, alK⟩ := hK.sk rfl
  obtain rfl := Jv.dv_bools (bs := [k0, k1]) alK
  refine ⟨_, (pss_cons (ps_set (i := 1) sc_goals_text.nd rfl (Or.inl rfl) (pe_lst (pa_cons (pe_joined (PJ.cons pe_str (PJ.cons (pe_fmt (show PE _ _ (tFld K _ _) from pe_fld (pv 0) rfl)) PJ.nil))) (pa_cons (pe_joined (PJ.cons pe_str (PJ.cons (pe_fmt (pe_ix (r := rIx K) ix_seq (show PE _ _ (tFld K _ _) from pe_fld (pv 0) rfl) (pe_glob (v := .int (0)) (by rfl) O.c_EAST ⟨_, rfl⟩) (fun _ _ => rfl))) (PJ.cons pe_str (PJ.cons (pe_fmt (pe_ix (r := rIx K) ix_seq (show PE _ _ (tFld K _ _) from pe_fld (pv 0) rfl) (pe_glob (v := .int (1)) (by rfl) O.c_WEST ⟨_, rfl⟩) (fun _ _ => rfl))) PJ.nil))))) (pa_cons (pe_joined (PJ.cons pe_str (PJ.cons (pe_fmt (pe_call (ok_yes_or_no T O) (hr.mono (by decide)) (by rfl) O.m_yes_or_no O.F_yes_or_no.kp O.b_yes_or_no .nil pass0 (pa_cons (pe_ix (r := rIx K) ix_seq (show PE _ _ (tFld K _ _) from pe_fld (pv 0) rfl) (pe_glob (v := .int (0)) (by rfl) O.c_EAST ⟨_, rfl⟩) (fun _ _ => rfl)) pa_nil))) (PJ.cons pe_str (PJ.cons (pe_fmt (pe_call (ok_yes_or_no T O) (hr.mono (by decide)) (by rfl) O.m_yes_or_no O.F_yes_or_no.kp O.b_yes_or_no .nil pass0 (pa_cons (pe_ix (r := rIx K) ix_seq (show PE _ _ (tFld K _ _) from pe_fld (pv 0) rfl) (pe_glob (v := .int (1)) (by rfl) O.c_WEST ⟨_, rfl⟩) (fun _ _ => rfl)) pa_nil))) PJ.nil))))) pa_nil)))))
  (pss_cons (ps_for PassesOwn.never rfl (show PI _ _ _ (iTup K _) from pi_tup (pe_call (ok_couples_of T O) (hr.mono (by decide)) (by rfl) O.m_couples_of O.F_couples_of.kp O.b_couples_of .nil pass0 (pa_cons (show PE _ _ (tFld K _ _) from pe_fld (pv 0) rfl) pa_nil))) (pg_tup rfl (pgs_cons (pg_name (i := 2) sc_goals_text.nd rfl (Or.inl rfl)) (pgs_cons (pg_name (i := 3) sc_goals_text.nd rfl (Or.inl rfl)) pgs_nil))) (pss_cons (ps_set (i := 4) sc_goals_text.nd rfl (Or.inl rfl) (pe_join pe_str (pe_lc (own := [("end", 5)]) (by rfl) sc_goals_text.nd (Jv.piOr (show PI _ _ _ (iList K _) from pi_list (pe_ix (r := rIx K) ix_seq (pe_ix (r := rIx K) ix_seq (show PE _ _ (tFld K _ _) from pe_fld (pv 0) rfl) (pv 2) (fun _ _ => rfl)) (pv 3) (fun _ _ => rfl))) (show PI _ _ _ (iTup K _) from pi_tup (pe_ix (r := rIx K) ix_seq (pe_ix (r := rIx K) ix_seq (show PE _ _ (tFld K _ _) from pe_fld (pv 0) rfl) (pv 2) (fun _ _ => rfl)) (pv 3) (fun _ _ => rfl)))) (blkOk_by (own := [("end", 5)]) (N := ["goals", "lines", "east", "west", "ends", "end"]) (sc := defScope s_goals_text) (scope := ({ kind := .function, names := [(".0", .local), ("end", .local), ("str", .globalImplicit)], isGenerator := false, isCoroutine := false } : Scope)) (by decide +kernel)) (fun _ _ _ _ _ => (pg_name (i := 5) sc_goals_text.nd rfl (Or.inl rfl))) (fun _ _ _ _ _ => pts_nil) (fun _ _ _ _ _ => (pe_callTy call_str_int (by rfl) O.z_str (by decide +kernel) (pa_cons (pv 5) pa_nil))))))
  (pss_one (ps_expr (show PE _ _ (tBM K _ _ _ _) from pe_bm PySem.F.plainAttrs_list PySem.F.slot_list_append PySem.F.type_list_append mt_append (pv 1) (pa_cons (pe_joined (PJ.cons (pe_fmt (pv 2)) (PJ.cons pe_str (PJ.cons (pe_fmt (pv 3)) (PJ.cons pe_str (PJ.cons (pe_fmt (pv 4)) PJ.nil)))))) pa_nil))))))
  (pss_one (ps_ret (pe_join pe_str (pv 1)))))), ?_⟩
  have lL := numS_len (z := (l : Int)) (by omega) (by omega)
  have lP := numS_len (z := (p : Int)) (by omega) (by omega)
  have lQ := numS_len (z := (q : Int)) (by omega) (by omega)
  have o1 : (Str.ofString "sides ").length ≤ 6 := by decide +kernel
  have o2 : (Str.ofString "knows ").length ≤ 6 := by decide +kernel
  have o3 : (Str.ofString " ").length ≤ 1 := by decide +kernel
  have o4 : (Str.ofString "ladder ").length ≤ 7 := by decide +kernel
  walk_at "r"
  refine r_jC0 (by omega) ?_
  refine r_jcons (r_fmt ?_)
  refine Jv.r_fld ?_
  walk_at "r"
  refine ⟨a, _, dx, _, _, rfl, hga, O.o_Goals, O.n_Goals_ladder, rfl, ?_⟩
  refine r_fi (by omega) (by omega) (by omega) (r_jnil ?_)
  walk_at "r"
  refine r_jC0 (by omega) ?_
  refine r_jcons (r_fmt ?_)
  refine Jv.r_fld ?_
  walk_at "r"
  refine ⟨a, _, dx, _, _, rfl, hga, O.o_Goals, O.n_Goals_sides, rfl, ?_⟩
  walk_at "r"
  refine skS.ix (v := .int p) (by rfl) ?_
  refine r_fi (by omega) (by omega) (by omega) ?_
  refine r_jC (by rw [app_len]; omega) ?_
  refine r_jcons (r_fmt ?_)
  refine Jv.r_fld ?_
  walk_at "r"
  refine ⟨a, _, dx, _, _, rfl, hga, O.o_Goals, O.n_Goals_sides, rfl, ?_⟩
  walk_at "r"
  refine skS.ix (v := .int q) (by rfl) ?_
  refine r_fi (by omega) (by omega) (by rw [app_len, app_len]; omega) (r_jnil ?_)
  walk_at "r"
  have lk0 := yesT_len k0
  have lk1 := yesT_len k1
  refine r_jC0 (by omega) ?_
  refine r_jcons (r_fmt ?_)
  refine Jv.r_fld ?_
  walk_at "r"
  refine ⟨a, _, dx, _, _, rfl, hga, O.o_Goals, O.n_Goals_knows, rfl, ?_⟩
  walk_at "r"
  refine skK.ix (v := .bl k0) (by rfl) ?_
  walk_at "r"
  refine ⟨k0, rfl, ?_⟩
  refine r_fs (by omega) ?_
  refine r_jC (by rw [app_len]; omega) ?_
  refine r_jcons (r_fmt ?_)
  refine Jv.r_fld ?_
  walk_at "r"
  refine ⟨a, _, dx, _, _, rfl, hga, O.o_Goals, O.n_Goals_knows, rfl, ?_⟩
  walk_at "r"
  refine skK.ix (v := .bl k1) (by rfl) ?_
  walk_at "r"
  refine ⟨k1, rfl, ?_⟩
  refine r_fs (by rw [app_len, app_len]; omega) (r_jnil ?_)
  walk_at "r"
  intro D hD
  have s2 := Jv.same_new (u := .lst ((headS l p q k0 k1).map V.str)) hD
  have e2 : upd H D (.lst ((headS l p q k0 k1).map V.str)) D = some (.lst ((headS l p q k0 k1).map V.str)) := upd_same
  change tSeq _ _ _ _ (upd H D (.lst ((headS l p q k0 k1).map V.str)))
  generalize upd H D (.lst ((headS l p q k0 k1).map V.str)) = H2 at e2 s2 ⊢
  walk_at "r"
  refine Jv.r_fld ?_
  walk_at "r"
  refine ⟨a, _, dx, _, _, rfl, s2 _ _ hga, O.o_Goals, O.n_Goals_sides, rfl, ?_⟩
  walk_at "r"
  refine ⟨sv, p, q, rfl, hS.same s2, ⟨by omega, by omega⟩, fun r refs H3 s3 er tups => ?_⟩
  have e3D := s3 _ _ e2
  have sH3 := s2.trans s3
  rw [prs_cp] at tups
  have lrefs : refs.length = p * q := by rw [tups.length, List.length_map, cpN_len]
  have nrD : r ≠ D := fun e => by rw [e, e3D] at er; cases er
  walk_at "r"
  refine ⟨r, rfl, ⟨_, Jv.sqT_at er⟩, for_tup (xs := refs) (fun j σ H' => ∃ y2 y3 y4, σ = [some (.ref a), some (.ref D), y2, y3, y4, none] ∧ Same H H' ∧ H' D = some (.lst ((headS l p q k0 k1 ++ ((cpN p q).take j).map fun c => lineS c (cellN L c)).map V.str)) ∧ Same (Jv.hide [D] H3) H')
    ⟨_, _, _, rfl, sH3, by rw [List.take_zero, List.map_nil, List.append_nil]; exact e3D, Jv.hide_le⟩ (fun j σ' H' _ ⟨_, _, _, _, _, _, k⟩ => Jv.sqT_at (k _ _ (Jv.hide_at (fun m => nrD (List.mem_singleton.mp m)) er))) ?_ ?_⟩
  · rintro j v σ H' hv ⟨y2, y3, y4, rfl, sH, eL, kH⟩
    obtain ⟨pr, hpr, u, rfl, eu⟩ := pairAt tups hv
    rw [List.getElem?_map] at hpr
    obtain ⟨c, hc, rfl⟩ := Option.map_eq_some_iff.mp hpr
    obtain ⟨ce, cf⟩ := cpN_mem (List.mem_of_getElem? hc)
    replace eu : H3 u = some (.tup [.int (c.1 : Nat), .int (c.2 : Nat)]) := eu
    have eu' := kH _ _ (Jv.hide_at (fun m => by rw [List.mem_singleton.mp m, e3D] at eu; cases eu) eu)
    obtain ⟨us, y, xs, v, w1, w2, w3, w4, w5⟩ := cell_sk (hW.same sH) wd ce cf
    have hga' := sH _ _ hga
    obtain ⟨line, zs, _, _, m1, m2, ec⟩ := cell_wd wd ce cf
    obtain ⟨fz, rz, fw⟩ := few_wd wd m1 m2
    have ec2 : cellN L (c.1, c.2) = zs := ec
    rw [ec2] at w5
    have lc1 := numS_len (z := (c.1 : Int)) (by omega) (by omega)
    have lc2 := numS_len (z := (c.2 : Int)) (by omega) (by omega)
    walk_at "r"
    refine Jv.r_m1 ?_
    walk_at "r"
    refine ⟨⟨_, rfl⟩, ?_⟩
    refine Jv.lcKe (fun P hP => ?_) w5 strV (by rw [List.length_map]; omega) (fun v H5 hv s5 P hP => ?_) (fun D5 H5 s5 hD5 e5 => ?_)
    · walk_at "r"
      refine Jv.r_fld ?_
      walk_at "r"
      refine ⟨a, _, dx, _, _, rfl, hga', O.o_Goals, O.n_Goals_wanted, rfl, ?_⟩
      walk_at "r"
      refine w1.ix (Jv.at_i (by omega) (by rw [Int.toNat_natCast]; exact w2)) ?_
      walk_at "r"
      refine w3.ix (Jv.at_i (by omega) (by rw [Int.toNat_natCast]; exact w4)) ?_
      exact hP
    · obtain ⟨z, hz, rfl⟩ := List.mem_map.mp hv
      have := fw.2 z hz
      walk_at "r"
      refine ⟨_, rfl, log_small (by omega) (by omega), ?_⟩
      exact hP _ (Same.refl _)
    rw [strs_map] at e5
    walk_at "r"
    refine ⟨_, D5, zs.map numS, rfl, rfl, .inl (Jv.sqL_at e5), join_small fw, ?_⟩
    have lt : (Txt.join (Str.ofString " ") (zs.map numS)).length ≤ 7 * zs.length := tail_len fw
    have eL5 := s5 _ _ eL
    have o5 : (Str.ofString ": ").length ≤ 2 := by decide +kernel
    walk_at "r"
    refine r_jcons (r_fmt ?_)
    walk_at "r"
    refine r_fi (by omega) (by omega) (by decide) ?_
    rw [empty_app]
    refine r_jC (by omega) ?_
    refine r_jcons (r_fmt ?_)
    walk_at "r"
    refine r_fi (by omega) (by omega) (by rw [app_len]; omega) ?_
    refine r_jC (by rw [app_len, app_len]; omega) ?_
    refine r_jcons (r_fmt ?_)
    walk_at "r"
    refine r_fs (by rw [app_len, app_len, app_len]; omega) (r_jnil ?_)
    walk_at "r"
    refine Jv.r_app eL5 (by rw [List.length_map, List.length_append, List.length_map, List.length_take, cpN_len]; show 3 + _ < 1000; have := wd.pq; omega) ?_
    walk_at "r"
    refine ⟨_, _, _, rfl, fun b o hb => Jv.kpO (s5 _ _ (sH _ _ hb)) (ne_of_none hb hD), ?_, fun b o hb => ?_⟩
    · rw [upd_same, (take_next hc).2.1, ← ec2]
      simp only [List.map_append, List.append_assoc]
      rfl
    · obtain ⟨n, e6⟩ := Jv.hide_some hb
      exact Jv.kpO (s5 _ _ (kH _ _ hb)) (fun z => n (by rw [z]; exact List.mem_singleton.mpr rfl))
  · rintro σ H' ⟨y2, y3, y4, rfl, sH, eL, kH⟩
    rw [lrefs, ← cpN_len p q, List.take_length] at eL
    walk_at "r"
    refine Jv.r_m1 ?_
    walk_at "r"
    refine ⟨⟨_, rfl⟩, ?_⟩
    walk_at "r"
    refine ⟨_, D, textS l p q k0 k1 L, rfl, rfl, .inl (Jv.sqL_at eL), join_big (by rw [text_len]; have := wd.pq; omega) (fun y hy => Nat.le_trans (text_ok wd y hy).2 (by decide)), ?_⟩
    exact kQ H' sH
end
end K07

namespace Jv
open PySem PySem.Spec PyProof.Rows L2
/-! ### displays of pairs of texts, one picked -/
/-- tuples of two texts -/
inductive TpAll (H : Hp) : List V → List (Str × Str) → Prop
  | nil : TpAll H [] []
  | cons {t : Addr} {a b : Str} {vs : List V} {ps : List (Str × Str)} (h : H t = some (.tup [.str a, .str b])) (r : TpAll H vs ps) : TpAll H (.ref t :: vs) ((a, b) :: ps)
theorem TpAll.same {H H' : Hp} (s : Same H H') : ∀ {vs : List V} {ps : List (Str × Str)}, TpAll H vs ps → TpAll H' vs ps
  | _, _, .nil => .nil
  | _, _, .cons h r => .cons (s _ _ h) (r.same s)
theorem TpAll.kp {H H' : Hp} {p l : Addr} (s : Kp p H H') (hh : Hand H p l) : ∀ {vs : List V} {ps : List (Str × Str)}, TpAll H vs ps → TpAll H' vs ps
  | _, _, .nil => .nil
  | _, _, .cons (t := t) h r => .cons (s _ _ (fun e => by subst e; obtain ⟨_, _, _, _, e2⟩ := hh; rw [e2.hp] at h; cases h) h) (r.kp s hh)
theorem TpAll.app {H : Hp} : ∀ {vs ws : List V} {ps qs : List (Str × Str)}, TpAll H vs ps → TpAll H ws qs → TpAll H (vs ++ ws) (ps ++ qs)
  | _, _, _, _, .nil, h => h
  | _, _, _, _, .cons h r, h2 => .cons h (r.app h2)
theorem TpAll.len {H : Hp} : ∀ {vs : List V} {ps : List (Str × Str)}, TpAll H vs ps → vs.length = ps.length
  | _, _, .nil => rfl
  | _, _, .cons _ r => by rw [List.length_cons, List.length_cons, r.len]
theorem TpAll.at {H : Hp} : ∀ {vs : List V} {ps : List (Str × Str)} {i : Nat} {v : V}, TpAll H vs ps → vs[i]? = some v → ∃ t a b, v = .ref t ∧ (a, b) ∈ ps ∧ H t = some (.tup [.str a, .str b])
  | _, _, _, _, .nil, e => by cases e
  | _, _, 0, _, .cons h _, e => by cases e; exact ⟨_, _, _, rfl, List.mem_cons_self, h⟩
  | _, _, i + 1, _, .cons _ r, e => by
    obtain ⟨t, a, b, e1, e2, e3⟩ := r.at (i := i) e
    exact ⟨t, a, b, e1, List.mem_cons_of_mem _ e2, e3⟩
section
variable {σ : L2.St} {H : Hp} {te : TE} {ta : TA} {Q : VK} {a b : Str} {ps : List (Str × Str)}
def TPs (σ : L2.St) (H : Hp) (ta : TA) (ps : List (Str × Str)) : Prop := ∀ H1, Same H H1 → ∀ P : List V → Hp → Prop, (∀ vs H2, Same H1 H2 → TpAll H2 vs ps → P vs H2) → ta σ H1 P
theorem tp_nil : TPs σ H tNil [] := fun _ _ _ hP => hP [] _ (Same.refl _) .nil
theorem tp_cons (h : ∀ H1, Same H H1 → ∀ Q : VK, (∀ t, H1 t = none → Q (.ref t) (upd H1 t (.tup [.str a, .str b]))) → te σ H1 Q) (r : TPs σ H ta ps) : TPs σ H (tCons te ta) ((a, b) :: ps) := fun H1 s1 P hP =>
  h H1 s1 _ fun t ht => r _ (s1.trans (same_new ht)) _ fun vs H2 s2 tp => hP _ H2 ((same_new ht).trans s2) (.cons (s2 _ _ upd_same) tp)
theorem r_pairs (h : TPs σ H ta ps) (few : ps.length ≤ 100) (k : ∀ D vs H', Same H H' → H D = none → H' D = some (.lst vs) → TpAll H' vs ps → Q (.ref D) H') : tLst ta σ H Q :=
  h H (Same.refl _) _ fun vs H1 s1 tp => ⟨small_of (by rw [tp.len]; omega), fun D hD => k D vs _ (s1.trans (same_new hD)) (Same.free s1 hD) upd_same (tp.same (same_new hD))⟩
end
end Jv

namespace K07
open PySem PySem.Spec PyProof.Rows L2
/-! ### a bent head -/
theorem tp_s {σ : L2.St} {H : Hp} {ta : TA} {a b : Str} {ps : List (Str × Str)} (r : Jv.TPs σ H ta ps) : Jv.TPs σ H (tCons (tTup (tCons (tC (.str a)) (tCons (tC (.str b)) tNil))) ta) ((a, b) :: ps) :=
  Jv.tp_cons (fun H1 s1 Q hQ => Jv.r_tup (Jv.r_cons (Jv.r_c (Jv.r_cons (Jv.r_c (Jv.r_nil ⟨Jv.small_of (by show 2 ≤ 1000; decide), hQ⟩)))))) r
theorem tp_y {σ : L2.St} {H : Hp} {ta : TA} {y a b : Str} {i : Nat} {ps : List (Str × Str)} (r : Jv.TPs σ H ta ps) (hy : y.length + a.length ≤ 900 ) (e : σ[i]? = some (some (.str y)) := by rfl) : Jv.TPs σ H (tCons (tTup (tCons (tOp (fun x y H Q => ∃ i j : Str, x = .str i ∧ y = .str j ∧ i.length + j.length ≤ sizeLine ∧ Q (.str (i ++ j)) H) (tVar i) (tC (.str a))) (tCons (tC (.str b)) tNil))) ta) ((y ++ a, b) :: ps) :=
  Jv.tp_cons (fun H1 s1 Q hQ => Jv.r_tup (Jv.r_cons (Jv.r_op (Jv.r_var e (Jv.r_c ⟨y, a, rfl, rfl, Jv.small_of (by omega), Jv.r_cons (Jv.r_c (Jv.r_nil ⟨Jv.small_of (by show 2 ≤ 1000; decide), hQ⟩))⟩))))) r
def sp_Lbent_top : Sp := fun vs H Q _ => ∃ h hl, ∃ a l p q : Nat, ∃ y k0 k1, vs = [.ref h, .int a, .str y] ∧ Jv.Hand H h hl ∧ (l ≤ 6 ∧ p ≤ 6 ∧ q ≤ 6) ∧ ((a = 0 ∧ y = hd0 l) ∨ (a = 1 ∧ y = hd1 p q) ∨ (a = 2 ∧ y = hd2 k0 k1)) ∧
  ∀ t x H', BentAt l p q a x → Jv.Kp h H H' → Jv.Hand H' h hl → H' t = some (.tup [.str x.1, .str x.2]) → Q (.ref t) H'
section
variable {P : Program} {w : World} {K : PySem.W.Frag} {mg : Str → Option Value} {base : Heap}
theorem ok_Lbent_top (T : Tx) (O : Ok K mg T) : FnOk P w K mg base CX0 3 T.f_Lbent_top T.d_Lbent_top ["_law_hand_here", "_law_at", "_law_line"] sp_Lbent_top := by
  refine O.F_Lbent_top.ok sc_Lbent_top (fun vs H Q E h => by obtain ⟨_, _, _, _, _, _, _, _, _, rfl, _⟩ := h; rfl) (fun cdv A outer s H vs Q E hr h => ?_)
  obtain ⟨h, hl, a, l, p, q, y, k0, k1, rfl, hh, ⟨l6, p6, q6⟩, hy, kQ⟩ := h
  refine ⟨_, (pss_cons (ps_if (pt_cmpR op_eq (pv 1) pe_int (nomark _)) (pss_cons (ps_set (i := 3) sc_Lbent_top.nd rfl (Or.inl rfl) (pe_lst (pa_cons (pe_tup (pa_cons pe_str (pa_cons pe_str pa_nil))) (pa_cons (pe_tup (pa_cons pe_str (pa_cons pe_str pa_nil))) (pa_cons (pe_tup (pa_cons pe_str (pa_cons pe_str pa_nil))) (pa_cons (pe_tup (pa_cons pe_str (pa_cons pe_str pa_nil))) (pa_cons (pe_tup (pa_cons pe_str (pa_cons pe_str pa_nil))) pa_nil)))))))
  (pss_cons (ps_set (i := 3) sc_Lbent_top.nd rfl (Or.inl rfl) (pe_op op_cat (pv 3) (pe_lst (pa_cons (pe_tup (pa_cons pe_str (pa_cons pe_str pa_nil))) (pa_cons (pe_tup (pa_cons pe_str (pa_cons pe_str pa_nil))) (pa_cons (pe_tup (pa_cons pe_str (pa_cons pe_str pa_nil))) (pa_cons (pe_tup (pa_cons pe_str (pa_cons pe_str pa_nil))) pa_nil)))))))
  (pss_cons (ps_set (i := 3) sc_Lbent_top.nd rfl (Or.inl rfl) (pe_op op_cat (pv 3) (pe_lst (pa_cons (pe_tup (pa_cons pe_str (pa_cons pe_str pa_nil))) (pa_cons (pe_tup (pa_cons pe_str (pa_cons pe_str pa_nil))) (pa_cons (pe_tup (pa_cons pe_str (pa_cons pe_str pa_nil))) (pa_cons (pe_tup (pa_cons pe_str (pa_cons pe_str pa_nil))) (pa_cons (pe_tup (pa_cons pe_str (pa_cons pe_str pa_nil))) pa_nil))))))))
  (pss_cons (ps_set (i := 3) sc_Lbent_top.nd rfl (Or.inl rfl) (pe_op op_cat (pv 3) (pe_lst (pa_cons (pe_tup (pa_cons pe_str (pa_cons pe_str pa_nil))) (pa_cons (pe_tup (pa_cons (pe_op op_add_str (pv 2) pe_str) (pa_cons pe_str pa_nil))) pa_nil)))))
  (pss_one (ps_ret (pe_ix (r := rIxL K) ix_list (pv 3) (pe_call (ok_Ldraw T O) (hr.mono (by decide)) (by rfl) O.m_Ldraw O.F_Ldraw.kp O.b_Ldraw .nil pass0 (pa_cons (pv 0) (pa_cons pe_int pa_nil))) (fun _ _ => rfl)))))))) pss_nil)
  (pss_cons (ps_if (pt_cmpR op_eq (pv 1) pe_int (nomark _)) (pss_cons (ps_set (i := 3) sc_Lbent_top.nd rfl (Or.inl rfl) (pe_lst (pa_cons (pe_tup (pa_cons pe_str (pa_cons pe_str pa_nil))) (pa_cons (pe_tup (pa_cons pe_str (pa_cons pe_str pa_nil))) (pa_cons (pe_tup (pa_cons pe_str (pa_cons pe_str pa_nil))) (pa_cons (pe_tup (pa_cons pe_str (pa_cons pe_str pa_nil))) (pa_cons (pe_tup (pa_cons pe_str (pa_cons pe_str pa_nil))) pa_nil)))))))
  (pss_cons (ps_set (i := 3) sc_Lbent_top.nd rfl (Or.inl rfl) (pe_op op_cat (pv 3) (pe_lst (pa_cons (pe_tup (pa_cons pe_str (pa_cons pe_str pa_nil))) (pa_cons (pe_tup (pa_cons pe_str (pa_cons pe_str pa_nil))) (pa_cons (pe_tup (pa_cons pe_str (pa_cons pe_str pa_nil))) (pa_cons (pe_tup (pa_cons pe_str (pa_cons pe_str pa_nil))) (pa_cons (pe_tup (pa_cons (pe_op op_add_str (pv 2) pe_str) (pa_cons pe_str pa_nil))) pa_nil))))))))
  (pss_one (ps_ret (pe_ix (r := rIxL K) ix_list (pv 3) (pe_call (ok_Ldraw T O) (hr.mono (by decide)) (by rfl) O.m_Ldraw O.F_Ldraw.kp O.b_Ldraw .nil pass0 (pa_cons (pv 0) (pa_cons pe_int pa_nil))) (fun _ _ => rfl)))))) pss_nil)
  (pss_cons (ps_set (i := 3) sc_Lbent_top.nd rfl (Or.inl rfl) (pe_lst (pa_cons (pe_tup (pa_cons pe_str (pa_cons pe_str pa_nil))) (pa_cons (pe_tup (pa_cons pe_str (pa_cons pe_str pa_nil))) (pa_cons (pe_tup (pa_cons pe_str (pa_cons pe_str pa_nil))) (pa_cons (pe_tup (pa_cons pe_str (pa_cons pe_str pa_nil))) (pa_cons (pe_tup (pa_cons pe_str (pa_cons pe_str pa_nil))) pa_nil)))))))
  (pss_cons (ps_set (i := 3) sc_Lbent_top.nd rfl (Or.inl rfl) (pe_op op_cat (pv 3) (pe_lst (pa_cons (pe_tup (pa_cons pe_str (pa_cons pe_str pa_nil))) (pa_cons (pe_tup (pa_cons (pe_op op_add_str (pv 2) pe_str) (pa_cons pe_str pa_nil))) (pa_cons (pe_tup (pa_cons pe_str (pa_cons pe_str pa_nil))) (pa_cons (pe_tup (pa_cons pe_str (pa_cons pe_str pa_nil))) (pa_cons (pe_tup (pa_cons pe_str (pa_cons pe_str pa_nil))) pa_nil))))))))
  (pss_one (ps_ret (pe_ix (r := rIxL K) ix_list (pv 3) (pe_call (ok_Ldraw T O) (hr.mono (by decide)) (by rfl) O.m_Ldraw O.F_Ldraw.kp O.b_Ldraw .nil pass0 (pa_cons (pv 0) (pa_cons pe_int pa_nil))) (fun _ _ => rfl)))))))), ?_⟩
  have lL := numS_len (z := (l : Int)) (by omega) (by omega)
  have lP := numS_len (z := (p : Int)) (by omega) (by omega)
  have lQ := numS_len (z := (q : Int)) (by omega) (by omega)
  have lk0 := yesT_len k0
  have lk1 := yesT_len k1
  have o1 : (Str.ofString " ").length ≤ 1 := by decide +kernel
  have y0 : (hd0 l).length + (Str.ofString "	").length ≤ 900 := by
    have := le_app (by decide +kernel : (Str.ofString "ladder ").length ≤ 7) lL
    have : (Str.ofString "	").length ≤ 1 := by decide +kernel
    unfold hd0; omega
  have y1 : (hd1 p q).length + (Str.ofString " ").length ≤ 900 := by
    have := le_app (le_app (le_app (by decide +kernel : (Str.ofString "sides ").length ≤ 6) lP) o1) lQ
    unfold hd1; omega
  have y2 : (hd2 k0 k1).length + (Str.ofString " ").length ≤ 900 := by
    have := le_app (le_app (le_app (by decide +kernel : (Str.ofString "knows ").length ≤ 6) lk0) o1) lk1
    unfold hd2; omega
  rcases hy with ⟨rfl, rfl⟩ | ⟨rfl, rfl⟩ | ⟨rfl, rfl⟩
  · refine Jv.r_seq (Jv.r_if (Jv.r_test (Jv.r_op (Jv.r_var rfl (Jv.r_c (Jv.r_eq rfl ⟨_, rfl, ?_⟩))))))
    rw [if_pos (by decide)]
    refine Jv.r_seq (Jv.r_asg (Jv.r_pairs (tp_s (tp_s (tp_s (tp_s (tp_s Jv.tp_nil))))) (Nat.le_of_ble_eq_true rfl) fun D1 vs1 H1 s1 n1 e1 t1 => Jv.r_gn ?_))
    with_reducible refine Jv.r_seq ?_
    with_reducible refine Jv.r_asg ?_
    with_reducible refine Jv.r_op ?_
    walk_at "r1"
    refine Jv.r_pairs (tp_s (tp_s (tp_s (tp_s Jv.tp_nil)))) (Nat.le_of_ble_eq_true rfl) fun D2 vs2 H2 s2 n2 e2 t2 => ?_
    refine Jv.r_cat (s2 _ _ e1) e2 (by rw [t1.len, t2.len]; exact Nat.le_of_ble_eq_true rfl) fun D3 H3 n3 s3 e3 => Jv.r_gn ?_
    have t3 := (t1.same (s2.trans s3)).app (t2.same s3)
    with_reducible refine Jv.r_seq ?_
    with_reducible refine Jv.r_asg ?_
    with_reducible refine Jv.r_op ?_
    walk_at "r1"
    refine Jv.r_pairs (tp_s (tp_s (tp_s (tp_s (tp_s Jv.tp_nil))))) (Nat.le_of_ble_eq_true rfl) fun D4 vs4 H4 s4 n4 e4 t4 => ?_
    refine Jv.r_cat (s4 _ _ e3) e4 (by rw [t3.len, t4.len]; exact Nat.le_of_ble_eq_true rfl) fun D5 H5 n5 s5 e5 => Jv.r_gn ?_
    have t5 := (t3.same (s4.trans s5)).app (t4.same s5)
    with_reducible refine Jv.r_seq ?_
    with_reducible refine Jv.r_asg ?_
    with_reducible refine Jv.r_op ?_
    walk_at "r1"
    refine Jv.r_pairs (tp_s (tp_y (hy := y0) Jv.tp_nil)) (Nat.le_of_ble_eq_true rfl) fun D6 vs6 H6 s6 n6 e6 t6 => ?_
    refine Jv.r_cat (s6 _ _ e5) e6 (by rw [t5.len, t6.len]; exact Nat.le_of_ble_eq_true rfl) fun D7 H7 n7 s7 e7 => Jv.r_gn ?_
    have t7 := (t5.same (s6.trans s7)).app (t6.same s7)
    walk_at "r"
    refine ⟨h, hl, 16, rfl, hh.same (((s1.trans (s2.trans s3)).trans (s4.trans s5)).trans (s6.trans s7)), ⟨by decide, by decide⟩, fun z H9 z0 z9 k9 h9 => ?_⟩
    walk_at "r"
    have ne : D7 ≠ h := fun z => by obtain ⟨o, ho⟩ := hh.at; rw [z] at n7; rw [(((s1.trans (s2.trans s3)).trans (s4.trans s5)).trans s6) _ _ ho] at n7; cases n7
    have hz := List.getElem?_eq_getElem (l := (((vs1 ++ vs2) ++ vs4) ++ vs6)) (i := z.toNat) (by rw [t7.len]; show z.toNat < 16; omega)
    obtain ⟨t, a, b, ev, m, et⟩ := (t7.kp k9 (hh.same (((s1.trans (s2.trans s3)).trans (s4.trans s5)).trans (s6.trans s7)))).at hz
    refine Jv.r_ixL (Jv.sqL_at (k9 _ _ ne e7)) (Jv.at_i z0 hz) ?_
    rw [ev]
    exact kQ t (a, b) H9 (top0_bent l6 _ m) (fun c o nc e => k9 c o nc ((((s1.trans (s2.trans s3)).trans (s4.trans s5)).trans (s6.trans s7)) _ _ e)) h9 et
  · refine Jv.r_seq (Jv.r_if (Jv.r_test (Jv.r_op (Jv.r_var rfl (Jv.r_c (Jv.r_eq rfl ⟨_, rfl, ?_⟩))))))
    rw [if_neg (by decide)]
    refine Jv.r_next ?_
    refine Jv.r_seq (Jv.r_if (Jv.r_test (Jv.r_op (Jv.r_var rfl (Jv.r_c (Jv.r_eq rfl ⟨_, rfl, ?_⟩))))))
    rw [if_pos (by decide)]
    refine Jv.r_seq (Jv.r_asg (Jv.r_pairs (tp_s (tp_s (tp_s (tp_s (tp_s Jv.tp_nil))))) (Nat.le_of_ble_eq_true rfl) fun D1 vs1 H1 s1 n1 e1 t1 => Jv.r_gn ?_))
    with_reducible refine Jv.r_seq ?_
    with_reducible refine Jv.r_asg ?_
    with_reducible refine Jv.r_op ?_
    walk_at "r1"
    refine Jv.r_pairs (tp_s (tp_s (tp_s (tp_s (tp_y (hy := y1) Jv.tp_nil))))) (Nat.le_of_ble_eq_true rfl) fun D2 vs2 H2 s2 n2 e2 t2 => ?_
    refine Jv.r_cat (s2 _ _ e1) e2 (by rw [t1.len, t2.len]; exact Nat.le_of_ble_eq_true rfl) fun D3 H3 n3 s3 e3 => Jv.r_gn ?_
    have t3 := (t1.same (s2.trans s3)).app (t2.same s3)
    walk_at "r"
    refine ⟨h, hl, 10, rfl, hh.same (s1.trans (s2.trans s3)), ⟨by decide, by decide⟩, fun z H9 z0 z9 k9 h9 => ?_⟩
    walk_at "r"
    have ne : D3 ≠ h := fun z => by obtain ⟨o, ho⟩ := hh.at; rw [z] at n3; rw [(s1.trans s2) _ _ ho] at n3; cases n3
    have hz := List.getElem?_eq_getElem (l := (vs1 ++ vs2)) (i := z.toNat) (by rw [t3.len]; show z.toNat < 10; omega)
    obtain ⟨t, a, b, ev, m, et⟩ := (t3.kp k9 (hh.same (s1.trans (s2.trans s3)))).at hz
    refine Jv.r_ixL (Jv.sqL_at (k9 _ _ ne e3)) (Jv.at_i z0 hz) ?_
    rw [ev]
    exact kQ t (a, b) H9 (top1_bent p6 q6 _ m) (fun c o nc e => k9 c o nc ((s1.trans (s2.trans s3)) _ _ e)) h9 et
  · refine Jv.r_seq (Jv.r_if (Jv.r_test (Jv.r_op (Jv.r_var rfl (Jv.r_c (Jv.r_eq rfl ⟨_, rfl, ?_⟩))))))
    rw [if_neg (by decide)]
    refine Jv.r_next ?_
    refine Jv.r_seq (Jv.r_if (Jv.r_test (Jv.r_op (Jv.r_var rfl (Jv.r_c (Jv.r_eq rfl ⟨_, rfl, ?_⟩))))))
    rw [if_neg (by decide)]
    refine Jv.r_next ?_
    refine Jv.r_seq (Jv.r_asg (Jv.r_pairs (tp_s (tp_s (tp_s (tp_s (tp_s Jv.tp_nil))))) (Nat.le_of_ble_eq_true rfl) fun D1 vs1 H1 s1 n1 e1 t1 => Jv.r_gn ?_))
    with_reducible refine Jv.r_seq ?_
    with_reducible refine Jv.r_asg ?_
    with_reducible refine Jv.r_op ?_
    walk_at "r1"
    refine Jv.r_pairs (tp_s (tp_y (hy := y2) (tp_s (tp_s (tp_s Jv.tp_nil))))) (Nat.le_of_ble_eq_true rfl) fun D2 vs2 H2 s2 n2 e2 t2 => ?_
    refine Jv.r_cat (s2 _ _ e1) e2 (by rw [t1.len, t2.len]; exact Nat.le_of_ble_eq_true rfl) fun D3 H3 n3 s3 e3 => Jv.r_gn ?_
    have t3 := (t1.same (s2.trans s3)).app (t2.same s3)
    walk_at "r"
    refine ⟨h, hl, 10, rfl, hh.same (s1.trans (s2.trans s3)), ⟨by decide, by decide⟩, fun z H9 z0 z9 k9 h9 => ?_⟩
    walk_at "r"
    have ne : D3 ≠ h := fun z => by obtain ⟨o, ho⟩ := hh.at; rw [z] at n3; rw [(s1.trans s2) _ _ ho] at n3; cases n3
    have hz := List.getElem?_eq_getElem (l := (vs1 ++ vs2)) (i := z.toNat) (by rw [t3.len]; show z.toNat < 10; omega)
    obtain ⟨t, a, b, ev, m, et⟩ := (t3.kp k9 (hh.same (s1.trans (s2.trans s3)))).at hz
    refine Jv.r_ixL (Jv.sqL_at (k9 _ _ ne e3)) (Jv.at_i z0 hz) ?_
    rw [ev]
    exact kQ t (a, b) H9 (top2_bent _ m) (fun c o nc e => k9 c o nc ((s1.trans (s2.trans s3)) _ _ e)) h9 et
end
end K07

namespace K07
open PySem PySem.Spec PyProof.Rows L2
/-! ### a bent line of a couple -/
structure TXt (σ : L2.St) (H : Hp) (te : TE) (y : Str) (m : Nat) : Prop where
  run : ∀ H1, Same H H1 → ∀ Q : VK, Q (.str y) H1 → te σ H1 Q
  len : y.length ≤ m
section
variable {σ : L2.St} {H : Hp} {ta tb : TE} {ts : TA} {a b y : Str} {m n : Nat} {ps : List (Str × Str)}
theorem tx_c (h : a.length ≤ m) : TXt σ H (tC (.str a)) a m := ⟨fun _ _ _ q => q, h⟩
theorem tx_v {i : Nat} (h : a.length ≤ m) (e : σ[i]? = some (some (.str a)) := by rfl) : TXt σ H (tVar i) a m := ⟨fun _ _ _ q => Jv.r_var e q, h⟩
theorem tx_a (h1 : TXt σ H ta a m) (h2 : TXt σ H tb b n) (hz : m + n ≤ 900 := by decide) : TXt σ H (tOp (fun x y H Q => ∃ i j : Str, x = .str i ∧ y = .str j ∧ i.length + j.length ≤ sizeLine ∧ Q (.str (i ++ j)) H) ta tb) (a ++ b) (m + n) :=
  ⟨fun H1 s1 Q q => h1.run H1 s1 _ (h2.run H1 s1 _ ⟨a, b, rfl, rfl, Jv.small_of (by have := h1.len; have := h2.len; omega), q⟩), le_app h1.len h2.len⟩
theorem tx_n {z : Int} (h : ∀ H1, Same H H1 → ∀ Q : VK, Q (.int z) H1 → ta σ H1 Q) (h1 : -1000 ≤ z) (h2 : z ≤ 1000) : TXt σ H (tCB (fun xs H Q => ∃ i, xs = [.int i] ∧ i.natAbs.log2 < 1920 ∧ Q (.str (toString i)) H) (tCons ta tNil)) (numS z) 6 :=
  ⟨fun H1 s1 Q q => h H1 s1 _ ⟨z, rfl, log_small h1 h2, q⟩, numS_len h1 h2⟩
theorem tp_t (h : TXt σ H ta a m) (r : Jv.TPs σ H ts ps) : Jv.TPs σ H (tCons (tTup (tCons ta (tCons (tC (.str b)) tNil))) ts) ((a, b) :: ps) :=
  Jv.tp_cons (fun H1 s1 Q hQ => Jv.r_tup (Jv.r_cons (h.run H1 s1 _ (Jv.r_cons (Jv.r_c (Jv.r_nil ⟨Jv.small_of (by show 2 ≤ 1000; decide), hQ⟩)))))) r
end
def sp_Lbent_couple (K : PySem.W.Frag) : Sp := fun vs H Q _ => ∃ h hl c ev zs, ∃ c0 c1 l : Nat, vs = [.ref h, .ref c, ev, .int l] ∧ Jv.Hand H h hl ∧ H c = some (.tup [.int c0, .int c1]) ∧ Jv.Sk K (Jv.hide [h] H) ev (zs.map V.int) ∧ (c0 < 6 ∧ c1 < 6 ∧ l ≤ 6) ∧ GoodE l zs ∧ zs.length ≤ 13 ∧
  ∀ t x H', Bent c0 c1 l x → Jv.Kp h H H' → Jv.Hand H' h hl → H' t = some (.tup [.str x.1, .str x.2]) → Q (.ref t) H'
section
variable {P : Program} {w : World} {K : PySem.W.Frag} {mg : Str → Option Value} {base : Heap}
theorem ok_Lbent_couple (T : Tx) (O : Ok K mg T) : FnOk P w K mg base CX0 3 T.f_Lbent_couple T.d_Lbent_couple ["_law_hand_here", "_law_couple", "_law_ends_here", "_law_ladder"] (sp_Lbent_couple K) := by
  refine O.F_Lbent_couple.ok sc_Lbent_couple (fun vs H Q E h => by obtain ⟨_, _, _, _, _, _, _, _, rfl, _⟩ := h; rfl) (fun cdv A outer s H vs Q E hr h => ?_)
  obtain ⟨h, hl, c, ev, zs, c0, c1, l, rfl, hh, hc, hs, ⟨h0, h1, l6⟩, g, few, kQ⟩ := h
  obtain ⟨g0, g1, g2⟩ := id g
  have fw : Few zs := ⟨by omega, fun z hz => by have := g1 z hz; omega⟩
  have sk0 : ∀ {H1 : Hp}, Same H H1 → Jv.Sk K H1 (.ref c) [.int c0, .int c1] := fun s1 => ⟨c, rfl, .inr (Jv.sqT_at (s1 _ _ hc))⟩
  have l0 := numS_len (z := (c0 : Int)) (by omega) (by omega)
  have l1 := numS_len (z := (c1 : Int)) (by omega) (by omega)
  have o3 : (Str.ofString " ").length ≤ 1 := by decide +kernel
  refine ⟨_, (pss_cons (ps_set (i := 4) sc_Lbent_couple.nd rfl (Or.inl rfl) (pe_op op_add_str (pe_op op_add_str (pe_callTy call_str_int (by rfl) O.z_str (by decide +kernel) (pa_cons (pe_ix (r := rIx K) ix_seq (pv 1) pe_int (fun _ _ => rfl)) pa_nil)) pe_str) (pe_callTy call_str_int (by rfl) O.z_str (by decide +kernel) (pa_cons (pe_ix (r := rIx K) ix_seq (pv 1) pe_int (fun _ _ => rfl)) pa_nil))))
  (pss_cons (ps_set (i := 5) sc_Lbent_couple.nd rfl (Or.inl rfl) (pe_join pe_str (pe_lc (own := [("_law_end", 8)]) (by rfl) sc_Lbent_couple.nd (Jv.piOr (show PI _ _ _ (iList K _) from pi_list (pv 2)) (show PI _ _ _ (iTup K _) from pi_tup (pv 2))) (blkOk_by (own := [("_law_end", 8)]) (N := ["_law_hand_here", "_law_couple", "_law_ends_here", "_law_ladder", "_law_head", "_law_tail", "_law_strange", "_law_bent", "_law_end"]) (sc := defScope s_Lbent_couple) (scope := ({ kind := .function, names := [(".0", .local), ("_law_end", .local), ("str", .globalImplicit)], isGenerator := false, isCoroutine := false } : Scope)) (by decide +kernel)) (fun _ _ _ _ _ => (pg_name (i := 8) sc_Lbent_couple.nd rfl (Or.inl rfl))) (fun _ _ _ _ _ => pts_nil) (fun _ _ _ _ _ => (pe_callTy call_str_int (by rfl) O.z_str (by decide +kernel) (pa_cons (pv 8) pa_nil))))))
  (pss_cons (ps_set (i := 6) sc_Lbent_couple.nd rfl (Or.inl rfl) (pe_op op_add_str (pe_op op_add_str (pe_callTy call_str_int (by rfl) O.z_str (by decide +kernel) (pa_cons (pe_ix (r := rIx K) ix_seq (pv 1) pe_int (fun _ _ => rfl)) pa_nil)) pe_str) (pe_callTy call_str_int (by rfl) O.z_str (by decide +kernel) (pa_cons (pe_op op_add (pe_op op_add (pe_ix (r := rIx K) ix_seq (pv 1) pe_int (fun _ _ => rfl)) pe_int) (pe_call (ok_Ldraw T O) (hr.mono (by decide)) (by rfl) O.m_Ldraw O.F_Ldraw.kp O.b_Ldraw .nil pass0 (pa_cons (pv 0) (pa_cons pe_int pa_nil)))) pa_nil))))
  (pss_cons (ps_set (i := 7) sc_Lbent_couple.nd rfl (Or.inl rfl) (pe_lst (pa_cons (pe_tup (pa_cons (pe_op op_add_str (pe_op op_add_str (pv 6) pe_str) (pv 5)) (pa_cons pe_str pa_nil))) (pa_cons (pe_tup (pa_cons (pe_op op_add_str (pe_op op_add_str (pv 6) pe_str) (pe_callTy call_str_int (by rfl) O.z_str (by decide +kernel) (pa_cons (pe_op op_add (pv 3) pe_int) pa_nil))) (pa_cons pe_str pa_nil))) (pa_cons (pe_tup (pa_cons (pe_op op_add_str (pe_op op_add_str (pv 4) pe_str) (pe_callTy call_str_int (by rfl) O.z_str (by decide +kernel) (pa_cons (pe_op op_add (pv 3) pe_int) pa_nil))) (pa_cons pe_str pa_nil))) pa_nil)))))
  (pss_cons (ps_set (i := 7) sc_Lbent_couple.nd rfl (Or.inl rfl) (pe_op op_cat (pv 7) (pe_lst (pa_cons (pe_tup (pa_cons (pe_op op_add_str (pe_op op_add_str (pe_op op_add_str (pe_op op_add_str (pv 4) pe_str) (pv 5)) pe_str) (pe_callTy call_str_int (by rfl) O.z_str (by decide +kernel) (pa_cons (pe_op op_sub (pe_un un_neg (pv 3)) pe_int) pa_nil))) (pa_cons pe_str pa_nil))) (pa_cons (pe_tup (pa_cons (pe_op op_add_str (pe_op op_add_str (pe_op op_add_str (pe_op op_add_str (pv 4) pe_str) (pv 5)) pe_str) (pe_callTy call_str_int (by rfl) O.z_str (by decide +kernel) (pa_cons (pe_ix (r := rIx K) ix_seq (pv 2) pe_int (fun _ _ => rfl)) pa_nil))) (pa_cons pe_str pa_nil))) pa_nil)))))
  (pss_cons (ps_set (i := 7) sc_Lbent_couple.nd rfl (Or.inl rfl) (pe_op op_cat (pv 7) (pe_lst (pa_cons (pe_tup (pa_cons (pe_op op_add_str (pe_op op_add_str (pv 4) pe_str) (pv 5)) (pa_cons pe_str pa_nil))) (pa_cons (pe_tup (pa_cons (pe_op op_add_str (pe_op op_add_str (pe_op op_add_str (pv 4) pe_str) (pv 5)) pe_str) (pa_cons pe_str pa_nil))) (pa_cons (pe_tup (pa_cons (pe_op op_add_str (pe_op op_add_str (pv 4) pe_str) (pv 5)) (pa_cons pe_str pa_nil))) (pa_cons (pe_tup (pa_cons (pe_op op_add_str (pv 4) pe_str) (pa_cons pe_str pa_nil))) pa_nil)))))))
  (pss_cons (ps_set (i := 7) sc_Lbent_couple.nd rfl (Or.inl rfl) (pe_op op_cat (pv 7) (pe_lst (pa_cons (pe_tup (pa_cons (pe_op op_add_str (pv 4) pe_str) (pa_cons pe_str pa_nil))) (pa_cons (pe_tup (pa_cons (pe_op op_add_str (pv 4) pe_str) (pa_cons pe_str pa_nil))) (pa_cons (pe_tup (pa_cons pe_str (pa_cons pe_str pa_nil))) (pa_cons (pe_tup (pa_cons (pe_op op_add_str (pe_op op_add_str (pv 4) pe_str) (pv 5)) (pa_cons pe_str pa_nil))) (pa_cons (pe_tup (pa_cons (pv 4) (pa_cons pe_str pa_nil))) pa_nil))))))))
  (pss_cons (ps_set (i := 7) sc_Lbent_couple.nd rfl (Or.inl rfl) (pe_op op_cat (pv 7) (pe_lst (pa_cons (pe_tup (pa_cons (pe_op op_add_str (pe_op op_add_str (pe_op op_add_str (pe_op op_add_str (pv 6) pe_str) (pe_callTy call_str_int (by rfl) O.z_str (by decide +kernel) (pa_cons (pe_ix (r := rIx K) ix_seq (pv 2) pe_int (fun _ _ => rfl)) pa_nil))) pe_str) (pe_callTy call_str_int (by rfl) O.z_str (by decide +kernel) (pa_cons (pe_ix (r := rIx K) ix_seq (pv 2) pe_int (fun _ _ => rfl)) pa_nil))) (pa_cons pe_str pa_nil))) (pa_cons (pe_tup (pa_cons (pe_op op_add_str (pv 4) pe_str) (pa_cons pe_str pa_nil))) (pa_cons (pe_tup (pa_cons (pe_op op_add_str (pv 4) pe_str) (pa_cons pe_str pa_nil))) pa_nil))))))
  (pss_cons (ps_set (i := 7) sc_Lbent_couple.nd rfl (Or.inl rfl) (pe_op op_cat (pv 7) (pe_lst (pa_cons (pe_tup (pa_cons (pe_op op_add_str (pv 4) pe_str) (pa_cons pe_str pa_nil))) (pa_cons (pe_tup (pa_cons (pe_op op_add_str (pe_op op_add_str (pe_op op_add_str pe_str (pv 4)) pe_str) (pv 5)) (pa_cons pe_str pa_nil))) (pa_cons (pe_tup (pa_cons (pe_op op_add_str (pe_op op_add_str (pv 4) pe_str) (pv 5)) (pa_cons pe_str pa_nil))) pa_nil))))))
  (pss_cons (ps_set (i := 7) sc_Lbent_couple.nd rfl (Or.inl rfl) (pe_op op_cat (pv 7) (pe_lst (pa_cons (pe_tup (pa_cons (pe_op op_add_str (pe_op op_add_str (pv 4) pe_str) (pv 5)) (pa_cons pe_str pa_nil))) (pa_cons (pe_tup (pa_cons (pe_op op_add_str (pe_op op_add_str (pe_op op_add_str (pe_op op_add_str (pe_callTy call_str_int (by rfl) O.z_str (by decide +kernel) (pa_cons (pe_ix (r := rIx K) ix_seq (pv 1) pe_int (fun _ _ => rfl)) pa_nil)) pe_str) (pe_callTy call_str_int (by rfl) O.z_str (by decide +kernel) (pa_cons (pe_ix (r := rIx K) ix_seq (pv 1) pe_int (fun _ _ => rfl)) pa_nil))) pe_str) (pv 5)) (pa_cons pe_str pa_nil))) pa_nil)))))
  (pss_one (ps_ret (pe_ix (r := rIxL K) ix_list (pv 7) (pe_call (ok_Ldraw T O) (hr.mono (by decide)) (by rfl) O.m_Ldraw O.F_Ldraw.kp O.b_Ldraw .nil pass0 (pa_cons (pv 0) (pa_cons pe_int pa_nil))) (fun _ _ => rfl)))))))))))))), ?_⟩
  walk_at "r"
  refine (sk0 (Same.refl _)).ix (v := .int c0) (by rfl) ?_
  walk_at "r"
  refine ⟨_, rfl, log_small (by omega) (by omega), ?_⟩
  refine ⟨_, _, rfl, rfl, small2 (num400 (by omega) (by omega)) (by decide +kernel), ?_⟩
  walk_at "r"
  refine (sk0 (Same.refl _)).ix (v := .int c1) (by rfl) ?_
  walk_at "r"
  refine ⟨_, rfl, log_small (by omega) (by omega), ?_⟩
  refine ⟨_, _, rfl, rfl, small2 (app400 l0 o3 (by decide)) (num400 (by omega) (by omega)), ?_⟩
  walk_at "r"
  refine Jv.r_m1 ?_
  walk_at "r"
  refine ⟨⟨_, rfl⟩, ?_⟩
  refine Jv.lcK (i := 2) (by rfl) (hs.same Jv.hide_le) strV (by rw [List.length_map]; omega) (fun v H5 hv s5 P hP => ?_) (fun D5 H5 s5 hD5 e5 => ?_)
  · obtain ⟨z, hz, rfl⟩ := List.mem_map.mp hv
    have := fw.2 z hz
    walk_at "r"
    refine ⟨_, rfl, log_small (by omega) (by omega), ?_⟩
    exact hP _ (Same.refl _)
  rw [strs_map] at e5
  walk_at "r"
  refine ⟨_, D5, zs.map numS, rfl, rfl, .inl (Jv.sqL_at e5), join_small fw, ?_⟩
  walk_at "r"
  refine (sk0 s5).ix (v := .int c0) (by rfl) ?_
  walk_at "r"
  refine ⟨_, rfl, log_small (by omega) (by omega), ?_⟩
  refine ⟨_, _, rfl, rfl, small2 (num400 (by omega) (by omega)) (by decide +kernel), ?_⟩
  walk_at "r"
  refine (sk0 s5).ix (v := .int c1) (by rfl) ?_
  walk_at "r"
  refine ⟨h, hl, 900, rfl, hh.same s5, ⟨by decide, by decide⟩, fun d H6 d0 d9 k6 h6 => ?_⟩
  walk_at "r"
  obtain ⟨n, rfl⟩ : ∃ n : Nat, d = n := ⟨d.toNat, by omega⟩
  rw [show (c1 : Int) + 1 + (n : Int) = ((c1 + 1 + n : Nat) : Int) by omega]
  refine ⟨_, rfl, log_small (by omega) (by omega), ?_⟩
  refine ⟨_, _, rfl, rfl, small2 (app400 l0 o3 (by decide)) (num400 (by omega) (by omega)), ?_⟩
  have nch : c ≠ h := fun e => by subst e; obtain ⟨_, _, _, _, e2⟩ := hh; rw [e2.hp] at hc; cases hc
  have sk6 : Jv.Sk K H6 (.ref c) [.int c0, .int c1] := ⟨c, rfl, .inr (Jv.sqT_at (k6 _ _ nch (s5 _ _ hc)))⟩
  have skZ : Jv.Sk K H6 ev (zs.map V.int) := (((hs.same (Jv.hide_same s5)).same (Jv.hide_kp (N := [h]) (M := [h]) (List.mem_singleton.mpr rfl) (fun _ m => m) k6)).same Jv.hide_le)
  have mz : zs.getD 0 0 ∈ zs := by
    cases zs with
    | nil => exact absurd rfl g0
    | cons a r => exact List.mem_cons_self
  have aZ : atI (zs.map V.int) 0 = some (.int (zs.getD 0 0)) := by
    cases zs with
    | nil => exact absurd rfl g0
    | cons a r => exact Jv.at_i (by decide) (by rfl)
  have rz := g1 _ mz
  have lH := head_lenC (a := c0) (b := c1) (by omega) (by omega)
  have lS := head_lenC (a := c0) (b := c1 + 1 + n) (by omega) (by omega)
  have lT : (tailS zs).length ≤ 91 := Nat.le_trans (tail_len fw) (by omega)
  with_reducible refine Jv.r_gn ?_
  with_reducible refine Jv.r_seq ?_
  with_reducible refine Jv.r_asg ?_
  refine Jv.r_pairs (tp_t (tx_a (tx_a (tx_v (i := 6) (a := headC c0 (c1 + 1 + n)) lS) (tx_c (a := Str.ofString ": ") (m := 2) (by decide +kernel))) (tx_v (i := 5) (a := tailS zs) lT)) (tp_t (tx_a (tx_a (tx_v (i := 6) (a := headC c0 (c1 + 1 + n)) lS) (tx_c (a := Str.ofString ": ") (m := 2) (by decide +kernel))) (tx_n (z := (l : Int) + 1) (fun H7 s7 Q q => by walk_at "r"; exact q) (by omega) (by omega))) (tp_t (tx_a (tx_a (tx_v (i := 4) (a := headC c0 c1) lH) (tx_c (a := Str.ofString ": ") (m := 2) (by decide +kernel))) (tx_n (z := (l : Int) + 1) (fun H7 s7 Q q => by walk_at "r"; exact q) (by omega) (by omega))) Jv.tp_nil))) (Nat.le_of_ble_eq_true rfl) fun D1 vs1 H1 s1 n1 e1 t1 => Jv.r_gn ?_
  with_reducible refine Jv.r_seq ?_
  with_reducible refine Jv.r_asg ?_
  with_reducible refine Jv.r_op ?_
  walk_at "r1"
  refine Jv.r_pairs (tp_t (tx_a (tx_a (tx_a (tx_a (tx_v (i := 4) (a := headC c0 c1) lH) (tx_c (a := Str.ofString ": ") (m := 2) (by decide +kernel))) (tx_v (i := 5) (a := tailS zs) lT)) (tx_c (a := Str.ofString " ") (m := 1) (by decide +kernel))) (tx_n (z := -(l : Int) - 1) (fun H7 s7 Q q => by walk_at "r"; exact q) (by omega) (by omega))) (tp_t (tx_a (tx_a (tx_a (tx_a (tx_v (i := 4) (a := headC c0 c1) lH) (tx_c (a := Str.ofString ": ") (m := 2) (by decide +kernel))) (tx_v (i := 5) (a := tailS zs) lT)) (tx_c (a := Str.ofString " ") (m := 1) (by decide +kernel))) (tx_n (z := zs.getD 0 0) (fun H7 s7 Q q => by walk_at "r"; exact (skZ.same (s1.trans s7)).ix (v := .int (zs.getD 0 0)) aZ q) (by omega) (by omega))) Jv.tp_nil)) (Nat.le_of_ble_eq_true rfl) fun D2x vs2x H2x s2x n2x e2x t2x => ?_
  refine Jv.r_cat (s2x _ _ e1) e2x (by rw [t1.len, t2x.len]; exact Nat.le_of_ble_eq_true rfl) fun D3x H3x n3x s3x e3x => Jv.r_gn ?_
  have t3x := (t1.same (s2x.trans s3x)).app (t2x.same s3x)
  with_reducible refine Jv.r_seq ?_
  with_reducible refine Jv.r_asg ?_
  with_reducible refine Jv.r_op ?_
  walk_at "r1"
  refine Jv.r_pairs (tp_t (tx_a (tx_a (tx_v (i := 4) (a := headC c0 c1) lH) (tx_c (a := Str.ofString ":") (m := 1) (by decide +kernel))) (tx_v (i := 5) (a := tailS zs) lT)) (tp_t (tx_a (tx_a (tx_a (tx_v (i := 4) (a := headC c0 c1) lH) (tx_c (a := Str.ofString ": ") (m := 2) (by decide +kernel))) (tx_v (i := 5) (a := tailS zs) lT)) (tx_c (a := Str.ofString " ") (m := 1) (by decide +kernel))) (tp_t (tx_a (tx_a (tx_v (i := 4) (a := headC c0 c1) lH) (tx_c (a := Str.ofString ":  ") (m := 3) (by decide +kernel))) (tx_v (i := 5) (a := tailS zs) lT)) (tp_t (tx_a (tx_v (i := 4) (a := headC c0 c1) lH) (tx_c (a := Str.ofString ": ") (m := 2) (by decide +kernel))) Jv.tp_nil)))) (Nat.le_of_ble_eq_true rfl) fun D4x vs4x H4x s4x n4x e4x t4x => ?_
  refine Jv.r_cat (s4x _ _ e3x) e4x (by rw [t3x.len, t4x.len]; exact Nat.le_of_ble_eq_true rfl) fun D5x H5x n5x s5x e5x => Jv.r_gn ?_
  have t5x := (t3x.same (s4x.trans s5x)).app (t4x.same s5x)
  with_reducible refine Jv.r_seq ?_
  with_reducible refine Jv.r_asg ?_
  with_reducible refine Jv.r_op ?_
  walk_at "r1"
  refine Jv.r_pairs (tp_t (tx_a (tx_v (i := 4) (a := headC c0 c1) lH) (tx_c (a := Str.ofString ": -0") (m := 4) (by decide +kernel))) (tp_t (tx_a (tx_v (i := 4) (a := headC c0 c1) lH) (tx_c (a := Str.ofString ": +1") (m := 4) (by decide +kernel))) (tp_t (tx_c (a := Str.ofString "") (m := 0) (by decide +kernel)) (tp_t (tx_a (tx_a (tx_v (i := 4) (a := headC c0 c1) lH) (tx_c (a := Str.ofString " 0: ") (m := 4) (by decide +kernel))) (tx_v (i := 5) (a := tailS zs) lT)) (tp_t (tx_v (i := 4) (a := headC c0 c1) lH) Jv.tp_nil))))) (Nat.le_of_ble_eq_true rfl) fun D6x vs6x H6x s6x n6x e6x t6x => ?_
  refine Jv.r_cat (s6x _ _ e5x) e6x (by rw [t5x.len, t6x.len]; exact Nat.le_of_ble_eq_true rfl) fun D7x H7x n7x s7x e7x => Jv.r_gn ?_
  have t7x := (t5x.same (s6x.trans s7x)).app (t6x.same s7x)
  with_reducible refine Jv.r_seq ?_
  with_reducible refine Jv.r_asg ?_
  with_reducible refine Jv.r_op ?_
  walk_at "r1"
  refine Jv.r_pairs (tp_t (tx_a (tx_a (tx_a (tx_a (tx_v (i := 6) (a := headC c0 (c1 + 1 + n)) lS) (tx_c (a := Str.ofString ": ") (m := 2) (by decide +kernel))) (tx_n (z := zs.getD 0 0) (fun H7 s7 Q q => by walk_at "r"; exact (skZ.same ((((s1.trans (s2x.trans s3x)).trans (s4x.trans s5x)).trans (s6x.trans s7x)).trans s7)).ix (v := .int (zs.getD 0 0)) aZ q) (by omega) (by omega))) (tx_c (a := Str.ofString " ") (m := 1) (by decide +kernel))) (tx_n (z := zs.getD 0 0) (fun H7 s7 Q q => by walk_at "r"; exact (skZ.same ((((s1.trans (s2x.trans s3x)).trans (s4x.trans s5x)).trans (s6x.trans s7x)).trans s7)).ix (v := .int (zs.getD 0 0)) aZ q) (by omega) (by omega))) (tp_t (tx_a (tx_v (i := 4) (a := headC c0 c1) lH) (tx_c (a := Str.ofString ": 00") (m := 4) (by decide +kernel))) (tp_t (tx_a (tx_v (i := 4) (a := headC c0 c1) lH) (tx_c (a := Str.ofString ": 1000000") (m := 9) (by decide +kernel))) Jv.tp_nil))) (Nat.le_of_ble_eq_true rfl) fun D8x vs8x H8x s8x n8x e8x t8x => ?_
  refine Jv.r_cat (s8x _ _ e7x) e8x (by rw [t7x.len, t8x.len]; exact Nat.le_of_ble_eq_true rfl) fun D9x H9x n9x s9x e9x => Jv.r_gn ?_
  have t9x := (t7x.same (s8x.trans s9x)).app (t8x.same s9x)
  with_reducible refine Jv.r_seq ?_
  with_reducible refine Jv.r_asg ?_
  with_reducible refine Jv.r_op ?_
  walk_at "r1"
  refine Jv.r_pairs (tp_t (tx_a (tx_v (i := 4) (a := headC c0 c1) lH) (tx_c (a := Str.ofString ": 999999") (m := 8) (by decide +kernel))) (tp_t (tx_a (tx_a (tx_a (tx_c (a := Str.ofString "0") (m := 1) (by decide +kernel)) (tx_v (i := 4) (a := headC c0 c1) lH)) (tx_c (a := Str.ofString ": ") (m := 2) (by decide +kernel))) (tx_v (i := 5) (a := tailS zs) lT)) (tp_t (tx_a (tx_a (tx_v (i := 4) (a := headC c0 c1) lH) (tx_c (a := Str.ofString " : ") (m := 3) (by decide +kernel))) (tx_v (i := 5) (a := tailS zs) lT)) Jv.tp_nil))) (Nat.le_of_ble_eq_true rfl) fun D10x vs10x H10x s10x n10x e10x t10x => ?_
  refine Jv.r_cat (s10x _ _ e9x) e10x (by rw [t9x.len, t10x.len]; exact Nat.le_of_ble_eq_true rfl) fun D11x H11x n11x s11x e11x => Jv.r_gn ?_
  have t11x := (t9x.same (s10x.trans s11x)).app (t10x.same s11x)
  with_reducible refine Jv.r_seq ?_
  with_reducible refine Jv.r_asg ?_
  with_reducible refine Jv.r_op ?_
  walk_at "r1"
  refine Jv.r_pairs (tp_t (tx_a (tx_a (tx_v (i := 4) (a := headC c0 c1) lH) (tx_c (a := Str.ofString ":\t") (m := 2) (by decide +kernel))) (tx_v (i := 5) (a := tailS zs) lT)) (tp_t (tx_a (tx_a (tx_a (tx_a (tx_n (z := (c0 : Int)) (fun H7 s7 Q q => by walk_at "r"; exact (sk6.same ((((((s1.trans (s2x.trans s3x)).trans (s4x.trans s5x)).trans (s6x.trans s7x)).trans (s8x.trans s9x)).trans (s10x.trans s11x)).trans s7)).ix (v := .int c0) (by rfl) q) (by omega) (by omega)) (tx_c (a := Str.ofString "\t") (m := 1) (by decide +kernel))) (tx_n (z := (c1 : Int)) (fun H7 s7 Q q => by walk_at "r"; exact (sk6.same ((((((s1.trans (s2x.trans s3x)).trans (s4x.trans s5x)).trans (s6x.trans s7x)).trans (s8x.trans s9x)).trans (s10x.trans s11x)).trans s7)).ix (v := .int c1) (by rfl) q) (by omega) (by omega))) (tx_c (a := Str.ofString ": ") (m := 2) (by decide +kernel))) (tx_v (i := 5) (a := tailS zs) lT)) Jv.tp_nil)) (Nat.le_of_ble_eq_true rfl) fun D12x vs12x H12x s12x n12x e12x t12x => ?_
  refine Jv.r_cat (s12x _ _ e11x) e12x (by rw [t11x.len, t12x.len]; exact Nat.le_of_ble_eq_true rfl) fun D13x H13x n13x s13x e13x => Jv.r_gn ?_
  have t13x := (t11x.same (s12x.trans s13x)).app (t12x.same s13x)
  walk_at "r"
  refine ⟨h, hl, 22, rfl, h6.same ((((((s1.trans (s2x.trans s3x)).trans (s4x.trans s5x)).trans (s6x.trans s7x)).trans (s8x.trans s9x)).trans (s10x.trans s11x)).trans (s12x.trans s13x)), ⟨by decide, by decide⟩, fun z H9 z0 z9 k9 h9 => ?_⟩
  walk_at "r"
  have ne : D13x ≠ h := fun z => by obtain ⟨w1, ho⟩ := h6.at; rw [z] at n13x; rw [((((((s1.trans (s2x.trans s3x)).trans (s4x.trans s5x)).trans (s6x.trans s7x)).trans (s8x.trans s9x)).trans (s10x.trans s11x)).trans s12x) _ _ ho] at n13x; cases n13x
  have hz := List.getElem?_eq_getElem (l := ((((((vs1 ++ vs2x) ++ vs4x) ++ vs6x) ++ vs8x) ++ vs10x) ++ vs12x)) (i := z.toNat) (by rw [t13x.len]; show z.toNat < 22; omega)
  obtain ⟨t, a, b, ev1, m, et⟩ := (t13x.kp k9 (h6.same ((((((s1.trans (s2x.trans s3x)).trans (s4x.trans s5x)).trans (s6x.trans s7x)).trans (s8x.trans s9x)).trans (s10x.trans s11x)).trans (s12x.trans s13x)))).at hz
  refine Jv.r_ixL (Jv.sqL_at (k9 _ _ ne e13x)) (Jv.at_i z0 hz) ?_
  rw [ev1]
  exact kQ t (a, b) H9 (bent_all h0 h1 (by omega) (by omega) l6 g few _ m) (fun c o nc e => k9 c o nc (((((((s1.trans (s2x.trans s3x)).trans (s4x.trans s5x)).trans (s6x.trans s7x)).trans (s8x.trans s9x)).trans (s10x.trans s11x)).trans (s12x.trans s13x)) _ _ (k6 c o nc (s5 _ _ e)))) h9 et
end
end K07

namespace K07
open PySem PySem.Spec PyProof.Rows L2
/-! ### texts of lines, as the law reads them -/
structure Lin (B : List Str) : Prop where
  ne : B ≠ []
  few : B.length ≤ 17
  ok : ∀ y ∈ B, 10 ∉ y.cps.toList ∧ y.length ≤ 120
theorem Lin.split {B : List Str} (h : Lin B) : Txt.split (Txt.join nlT B) nlT = B := TL.split_join (y := nlT) (s := 10) (S := []) (by decide +kernel) (by decide +kernel) h.ne fun y hy => (h.ok y hy).1
theorem Lin.sum {B : List Str} (h : Lin B) : (B.map (·.length)).sum + B.length * nlT.length ≤ 16777216 := by
  have := sum_le fun y hy => (h.ok y hy).2
  have := h.few
  rw [show nlT.length = 1 by decide +kernel]
  omega
theorem Lin.len {B : List Str} (h : Lin B) : (Txt.join nlT B).length ≤ 2500 := by
  have h1 := join_len nlT B
  have := sum_le fun y hy => (h.ok y hy).2
  have := h.few
  rw [show nlT.length = 1 by decide +kernel] at h1
  omega
theorem lin_text {L : List (List (List Int))} {l p q : Nat} {k0 k1 : Bool} (wd : Wd l L p q) : Lin (textS l p q k0 k1 L) :=
  ⟨fun e => by have := text_len (l := l) (p := p) (q := q) (k0 := k0) (k1 := k1) (L := L); rw [e] at this; have h0 : (0 : Nat) = 3 + p * q := this; omega, by rw [text_len]; have := wd.pq; omega, fun y hy => ⟨(text_ok wd y hy).1, Nat.le_trans (text_ok wd y hy).2 (by decide)⟩⟩
theorem Lin.take {B : List Str} (h : Lin B) {n : Nat} (h1 : 1 ≤ n) : Lin (B.take n) := by
  refine ⟨fun e => ?_, Nat.le_trans (List.length_take_le' ..) h.few, fun y hy => h.ok y (List.mem_of_mem_take hy)⟩
  have := congrArg List.length e
  rw [List.length_take] at this
  have l0 := h.ne
  cases B with
  | nil => exact l0 rfl
  | cons a r => simp at this; omega
theorem Lin.snoc {B : List Str} (h : Lin B) {y : Str} (hl : B.length ≤ 16) (hy : 10 ∉ y.cps.toList ∧ y.length ≤ 120) : Lin (B ++ [y]) :=
  ⟨by simp, by rw [List.length_append]; show _ + 1 ≤ _; omega, fun x hx => (List.mem_append.mp hx).elim (h.ok x) fun hx => by rw [List.mem_singleton.mp hx]; exact hy⟩
theorem Lin.set {B : List Str} (h : Lin B) {y : Str} {n : Nat} (hy : 10 ∉ y.cps.toList ∧ y.length ≤ 120) : Lin (B.set n y) :=
  ⟨fun e => h.ne (List.length_eq_zero_iff.mp (by rw [← List.length_set (as := B) (i := n) (a := y), e]; rfl)), by rw [List.length_set]; exact h.few, fun x hx => (List.mem_or_eq_of_mem_set hx).elim (h.ok x) fun e => by rw [e]; exact hy⟩
theorem read_bad {K : PySem.W.Frag} {T : Tx} {B : List Str} {n : Nat} {f : Str} {H : Hp} {Q : VK} {E : XK} (h : Lin B) (e : goalB B = .error (n, f)) (q : ∀ D H', Same H H' → H D = none → H' D = some (badV n f) → Q (.ref D) H') : sp_Lread K T [.str (Txt.join nlT B)] H Q E := by
  refine ⟨_, rfl, Nat.le_trans h.len (by decide), by rw [h.split]; have := h.few; omega, fun y hy => ?_, fun n' f' e' => ?_, fun r _ _ _ _ e' => ?_⟩
  · rw [h.split] at hy
    exact (h.ok y hy).2
  · rw [h.split, e] at e'
    cases e'
    exact q
  · rw [h.split, e] at e'
    cases e'
theorem read_good {K : PySem.W.Frag} {T : Tx} {L : List (List (List Int))} {l p q : Nat} {k0 k1 : Bool} {H : Hp} {Q : VK} {E : XK} (wd : Wd l L p q) (k : ∀ a H', Same H H' → H a = none → GAt K H' T.C_Goals a l (wantT L) k0 k1 p q → Q (.ref a) H') : sp_Lread K T [.str (Txt.join nlT (textS l p q k0 k1 L))] H Q E := by
  have h := lin_text (k0 := k0) (k1 := k1) wd
  refine ⟨_, rfl, Nat.le_trans h.len (by decide), by rw [h.split]; have := h.few; omega, fun y hy => ?_, fun n' f' e' => ?_, fun r p' q' k0' k1' e' ek g a H' s' na ga => ?_⟩
  · rw [h.split] at hy
    exact (h.ok y hy).2
  · rw [h.split, goal_ok wd] at e'
    cases e'
  · rw [h.split, goal_ok wd] at e'
    cases e'
    cases ek
    have hp : p' = p := by rw [← g.hp]; exact wd.hp
    have hq : q' = q := by
      have h0 : 0 < L.length := by rw [wd.hp]; exact wd.p0
      have m := List.getElem_mem h0
      rw [← g.hq _ m]; exact wd.hq _ m
    subst hp hq
    have e2 : wantD l L = wantT L := by rw [want_eq, wd.same]
    rw [e2] at ga
    exact k a H' s' na ga
end K07

namespace K07
open PySem PySem.Spec PyProof.Rows L2
/-! ### bent texts are refused at their first wrong line -/
/-- what stands while lines are bent -/
structure BrAt (K : PySem.W.Frag) (h hl g D s : Addr) (w : V) (L : List (List (List Int))) (l p q : Nat) (k0 k1 : Bool) (H0 : Hp) (b : Addr) (B : List Str) (H : Hp) : Prop where
  kp : Jv.Kp h H0 H
  hh : Jv.Hand H h hl
  nb : H0 b = none
  eb : H b = some (.lst (B.map V.str))
  lb : B.length = 3 + p * q
  lin : Lin B
/-- the first bent line of all -/
def Due (L : List (List (List Int))) (l p q : Nat) (k0 k1 : Bool) (B : List Str) (b : Addr) (H0 H : Hp) (dv : V) : Prop := ∃ d a f y, dv = .ref d ∧ H0 d = none ∧ d ≠ b ∧ H d = some (badV (a + 1) f) ∧ (∀ i < a, B[i]? = (textS l p q k0 k1 L)[i]?) ∧ B[a]? = some y ∧ faultAt l p q y a f ∧ a < 3 + p * q
def BrSt (K : PySem.W.Frag) (h hl g D s : Addr) (w : V) (L : List (List (List Int))) (l p q : Nat) (k0 k1 : Bool) (H0 : Hp) (b : Addr) (j : Nat) (σ : L2.St) (H : Hp) : Prop := ∃ dv B y8 y9 y10 y11 y12, σ = [some (.ref h), some (.ref g), some (.ref D), some (.int l), some (.ref s), some w, some (.ref b), some dv, y8, y9, y10, y11, y12, none] ∧
  BrAt K h hl g D s w L l p q k0 k1 H0 b B H ∧ ((j = 0 ∧ dv = .non ∧ B = textS l p q k0 k1 L) ∨ Due L l p q k0 k1 B b H0 H dv)
def BrMid (K : PySem.W.Frag) (h hl g D s : Addr) (w : V) (L : List (List (List Int))) (l p q : Nat) (k0 k1 : Bool) (H0 : Hp) (b : Addr) (σ : L2.St) (H : Hp) : Prop := ∃ dv B y8 a x y12, σ = [some (.ref h), some (.ref g), some (.ref D), some (.int l), some (.ref s), some w, some (.ref b), some dv, y8, some (.int (a : Nat)), some (.str x.1), some (.str x.2), y12, none] ∧
  BrAt K h hl g D s w L l p q k0 k1 H0 b B H ∧ (a < 3 + p * q ∧ BentAt l p q a x) ∧ ((dv = .non ∧ B = textS l p q k0 k1 L) ∨ Due L l p q k0 k1 B b H0 H dv)
theorem log_bd {z : Int} (h1 : -1000 ≤ z) (h2 : z ≤ 1000) : z.natAbs.log2 < 9000 := Nat.lt_of_lt_of_le (log_small h1 h2) (by decide)
theorem r_ifg {c : Bool} {ta tb : TE} {σ : L2.St} {H : Hp} {Q : VK} {G : Nat → Hp → Prop} (q : ∀ Q' : VK, (∀ a H', G a H' → Q' (.int (a : Nat)) H') → if c = true then ta σ H Q' else tb σ H Q') (k : ∀ a H', G a H' → Q (.int (a : Nat)) H') : if c = true then ta σ H Q else tb σ H Q := q Q k
theorem cp_div {q : Nat} (hq : 0 < q) : ∀ {p i : Nat}, i < p * q → (cpN p q)[i]? = some (i / q, i % q)
  | 0, i, h => by omega
  | p + 1, i, h => by
    have e : cpN (p + 1) q = cpN p q ++ (List.range q).map fun j => (p, j) := by
      unfold cpN
      rw [List.range_succ, List.flatMap_append]; simp
    rw [e]
    by_cases c : i < p * q
    · rw [List.getElem?_append_left (by rw [cpN_len]; exact c), cp_div hq c]
    · rw [Nat.succ_mul] at h
      obtain ⟨j, rfl⟩ : ∃ j, i = p * q + j := ⟨i - p * q, by omega⟩
      have hj : j < q := by omega
      rw [List.getElem?_append_right (by rw [cpN_len]; omega), cpN_len, show p * q + j - p * q = j by omega, List.getElem?_map, List.getElem?_range hj]
      rw [Nat.mul_comm p q, Nat.mul_add_div hq, Nat.mul_add_mod, Nat.div_eq_of_lt hj, Nat.mod_eq_of_lt hj]; rfl
theorem head_at {L : List (List (List Int))} {l p q a : Nat} {k0 k1 : Bool} (h : a < 3) : ∃ y, (textS l p q k0 k1 L)[a]? = some y ∧ ((a = 0 ∧ y = hd0 l) ∨ (a = 1 ∧ y = hd1 p q) ∨ (a = 2 ∧ y = hd2 k0 k1)) := by
  match a, h with
  | 0, _ => exact ⟨_, rfl, .inl ⟨rfl, rfl⟩⟩
  | 1, _ => exact ⟨_, rfl, .inr (.inl ⟨rfl, rfl⟩)⟩
  | 2, _ => exact ⟨_, rfl, .inr (.inr ⟨rfl, rfl⟩)⟩
theorem BrAt.to {K : PySem.W.Frag} {h hl g D s : Addr} {w : V} {L : List (List (List Int))} {l p q : Nat} {k0 k1 : Bool} {H0 : Hp} {b : Addr} {B : List Str} {H H' : Hp} (br : BrAt K h hl g D s w L l p q k0 k1 H0 b B H) (n : b ≠ h) (k : Jv.Kp h H H') (hh : Jv.Hand H' h hl) : BrAt K h hl g D s w L l p q k0 k1 H0 b B H' :=
  ⟨fun c o n e => k c o n (br.kp c o n e), hh, br.nb, k _ _ n br.eb, br.lb, br.lin⟩
theorem Due.to {L : List (List (List Int))} {l p q : Nat} {k0 k1 : Bool} {B : List Str} {b h : Addr} {H0 H H' : Hp} {dv : V} {P : Prop} (due : P ∨ Due L l p q k0 k1 B b H0 H dv) (k : Jv.Kp h H H') (hh : ∃ o, H0 h = some o) : P ∨ Due L l p q k0 k1 B b H0 H' dv :=
  due.elim .inl fun ⟨d, a, f, y, e1, e2, e3, e4, e5⟩ => .inr ⟨d, a, f, y, e1, e2, e3, k _ _ (fun z => by rw [z] at e2; obtain ⟨o, ho⟩ := hh; rw [ho] at e2; cases e2) e4, e5⟩
theorem BrAt.store {K : PySem.W.Frag} {h hl g D s : Addr} {w : V} {L : List (List (List Int))} {l p q : Nat} {k0 k1 : Bool} {H0 : Hp} {b : Addr} {B : List Str} {H H' : Hp} {a : Nat} {x : Str × Str} (br : BrAt K h hl g D s w L l p q k0 k1 H0 b B H) (h0 : Jv.Hand H0 h hl) (sm : Same H H') (bx : BentAt l p q a x) : BrAt K h hl g D s w L l p q k0 k1 H0 b (B.set a x.1) (upd H' b (.lst ((B.set a x.1).map V.str))) :=
  ⟨fun c o n e => by rw [upd_ne (ne_of_none e br.nb)]; exact sm _ _ (br.kp c o n e), (br.hh.same sm).upd (h0.ne2 br.nb).1 (h0.ne2 br.nb).2, br.nb, upd_same, by rw [List.length_set]; exact br.lb, br.lin.set ⟨bx.nl, bx.len⟩⟩
theorem BrAt.due {K : PySem.W.Frag} {h hl g D s : Addr} {w : V} {L : List (List (List Int))} {l p q : Nat} {k0 k1 : Bool} {H0 : Hp} {b : Addr} {B : List Str} {H : Hp} {a : Nat} {x : Str × Str} {d : Addr} (br : BrAt K h hl g D s w L l p q k0 k1 H0 b B H) (hd : H d = none) (ha : a < 3 + p * q) (bx : BentAt l p q a x) (pre : ∀ i < a, B[i]? = (textS l p q k0 k1 L)[i]?) :
    Due L l p q k0 k1 (B.set a x.1) b H0 (upd (upd H d (badV (a + 1) x.2)) b (.lst ((B.set a x.1).map V.str))) (.ref d) := by
  have ndb : d ≠ b := fun e => by rw [e, br.eb] at hd; cases hd
  refine ⟨d, a, x.2, x.1, rfl, ?_, ndb, by rw [upd_ne ndb]; exact upd_same, fun i hi => ?_, ?_, bx.e, ha⟩
  · cases e : H0 d with
    | none => rfl
    | some o =>
      have := br.kp d o (br.hh.ne2 hd).1 e
      rw [hd] at this; cases this
  · rw [List.getElem?_set_ne (by omega)]
    exact pre i hi
  · rw [List.getElem?_set_self (by rw [br.lb]; exact ha)]
theorem Due.keep {L : List (List (List Int))} {l p q a a' : Nat} {k0 k1 : Bool} {B : List Str} {b d : Addr} {H0 H H' : Hp} {y f z : Str} (h0 : H0 d = none) (nb : d ≠ b) (ed : H d = some (badV (a' + 1) f)) (pre : ∀ i < a', B[i]? = (textS l p q k0 k1 L)[i]?) (hy : B[a']? = some y) (hf : faultAt l p q y a' f) (ha : a' < 3 + p * q) (lt : a' < a) (sm : Same H H') : Due L l p q k0 k1 (B.set a z) b H0 (upd H' b (.lst ((B.set a z).map V.str))) (.ref d) :=
  ⟨d, a', f, y, rfl, h0, nb, by rw [upd_ne nb]; exact sm _ _ ed, fun i hi => by rw [List.getElem?_set_ne (by omega)]; exact pre i hi, by rw [List.getElem?_set_ne (by omega)]; exact hy, hf, ha⟩
theorem wordsB_ok {A : List Str} {n m : Nat} {hd f : Str} (h : wordsB A n hd m = .error f) : PyData.strOk f = true := by
  unfold wordsB at h
  split at h
  · cases h; decide +kernel
  split at h
  · cases h; decide +kernel
  · cases h
theorem numsB_ok {A : List Str} {n m : Nat} {hd f : Str} (h : numsB A n hd m = .error f) : PyData.strOk f = true := by
  unfold numsB at h
  split at h
  · rename_i e
    cases h
    exact wordsB_ok e
  split at h
  · cases h; decide +kernel
  · cases h
theorem fault_ok {l p q a : Nat} {y f : Str} (h : faultAt l p q y a f) : PyData.strOk f = true := by
  rcases h with ⟨_, h⟩ | ⟨_, h⟩ | ⟨_, h⟩ | ⟨_, _, _, _, h⟩
  · unfold ladB at h
    split at h
    · rename_i e
      cases h
      exact numsB_ok e
    split at h
    · cases h; decide +kernel
    · cases h
  · unfold sidesB at h
    split at h
    · rename_i e
      cases h
      exact numsB_ok e
    split at h
    · cases h
    · cases h; decide +kernel
  · unfold truB at h
    split at h
    · rename_i e
      cases h
      exact wordsB_ok e
    split at h
    · cases h
    · cases h; decide +kernel
  · unfold endsY at h
    split at h
    · cases h; decide +kernel
    split at h
    · cases h; decide +kernel
    split at h
    · cases h; decide +kernel
    split at h
    · cases h
    · cases h; decide +kernel
theorem can_bad {n : Nat} {f : Str} (h : PyData.strOk f = true) : PyData.canLay0 (.list [.str (Str.ofString "bad"), .int n, .str f]) = true := by
  have hb : PyData.strOk (Str.ofString "bad") = true := by decide +kernel
  simp [PyData.canLay0, PyData.canLayAll0, h, hb]
theorem eqv_bad {n : Nat} {f : Str} (h : PyData.strOk f = true) : PyData.eqv (.list [.str (Str.ofString "bad"), .int n, .str f]) (.list [.str (Str.ofString "bad"), .int n, .str f]) = true := SeqAt.eqv_refl _ (can_bad h)
theorem shaped_bad {n : Nat} {f : Str} (h : PyData.strOk f = true) : SeqAt.shaped (.list [.str (Str.ofString "bad"), .int n, .str f]) = true := by
  have := can_bad (n := n) h
  simp [SeqAt.shaped, this, PyData.depth, PyData.depthAll]
theorem dv_bad {K : PySem.W.Frag} {H : Hp} {d : Addr} {n : Nat} {f : Str} (h : H d = some (badV n f)) : Jv.Dv K H (.ref d) (.list [.str (Str.ofString "bad"), .int n, .str f]) := .lst h (.cons (.str _) (.cons (.int _) (.cons (.str _) .nil)))
def sp_Lbent_right (K : PySem.W.Frag) : Sp := fun vs H Q _ => ∃ h hl g D s w L, ∃ l p q : Nat, ∃ k0 k1, vs = [.ref h, .ref g, .ref D] ∧ Jv.Hand H h hl ∧ H g = some (.tup [.int l, .ref s, w]) ∧ H s = some (.tup [.int p, .int q]) ∧ Jv.Dv K (Jv.hide [h] H) w (wantT L) ∧
  (D ≠ h ∧ H D = some (.lst ((textS l p q k0 k1 L).map V.str))) ∧ Wd l L p q ∧ ∀ H', Jv.Kp h H H' → Jv.Hand H' h hl → Q (.bl true) H'
section
variable {P : Program} {w : World} {K : PySem.W.Frag} {mg : Str → Option Value} {base : Heap}
theorem ok_Lbent_right (T : Tx) (O : Ok K mg T) : FnOk P w K mg base CX0 9 T.f_Lbent_right T.d_Lbent_right ["_law_hand_here", "_law_goal", "_law_lines"] (sp_Lbent_right K) := by
  refine O.F_Lbent_right.ok sc_Lbent_right (fun vs H Q E h => by obtain ⟨_, _, _, _, _, _, _, _, _, _, _, _, rfl, _⟩ := h; rfl) (fun cdv A outer s0 H vs Q E hr hyp => ?_)
  obtain ⟨h, hl, g, D, s, w, L, l, p, q, k0, k1, rfl, hh, hg, hs, hw, ⟨nDh, hD⟩, wd, kQ⟩ := hyp
  have l6 := wd.l6
  have p6 := wd.p6
  have q6 := wd.q6
  have p0 := wd.p0
  have q0 := wd.q0
  have pq := wd.pq
  have ngh : g ≠ h := fun e => by subst e; obtain ⟨_, _, _, _, e2⟩ := hh; rw [e2.hp] at hg; cases hg
  have nsh : s ≠ h := fun e => by subst e; obtain ⟨_, _, _, _, e2⟩ := hh; rw [e2.hp] at hs; cases hs
  have tl : (textS l p q k0 k1 L).length = 3 + p * q := text_len
  refine ⟨_, (pss_cons (ps_asg (pv 1) (pg_tup rfl (pgs_cons (pg_name (i := 3) sc_Lbent_right.nd rfl (Or.inl rfl)) (pgs_cons (pg_name (i := 4) sc_Lbent_right.nd rfl (Or.inl rfl)) (pgs_cons (pg_name (i := 5) sc_Lbent_right.nd rfl (Or.inl rfl)) pgs_nil)))))
  (pss_cons (ps_set (i := 6) sc_Lbent_right.nd rfl (Or.inl rfl) (pe_callTy (r := Jv.rListOf K) call_list_of (by rfl) O.z_list (by decide +kernel) (pa_cons (pv 2) pa_nil)))
  (pss_cons (ps_set (i := 7) sc_Lbent_right.nd rfl (Or.inl rfl) pe_non)
  (pss_cons (ps_for PassesOwn.never rfl (pi_range1 (by rfl) O.z_range (pa_cons (pe_op op_add pe_int (pe_call (ok_Ldraw T O) (hr.mono (by decide)) (by rfl) O.m_Ldraw O.F_Ldraw.kp O.b_Ldraw .nil pass0 (pa_cons (pv 0) (pa_cons pe_int pa_nil)))) pa_nil)) (pg_name (i := 8) sc_Lbent_right.nd rfl (Or.inl rfl)) (pss_cons (ps_set (i := 9) sc_Lbent_right.nd rfl (Or.inl rfl) (pe_ifExp (pt_cmpR op_gt (pe_call (ok_Ldraw T O) (hr.mono (by decide)) (by rfl) O.m_Ldraw O.F_Ldraw.kp O.b_Ldraw .nil pass0 (pa_cons (pv 0) (pa_cons pe_int pa_nil))) pe_int (nomark _)) (pe_call (ok_Ldraw T O) (hr.mono (by decide)) (by rfl) O.m_Ldraw O.F_Ldraw.kp O.b_Ldraw .nil pass0 (pa_cons (pv 0) (pa_cons (pe_callB (r := Jv.rLenK K) Jv.cr_len (by rfl) O.z_len (by decide +kernel) (pa_cons (pv 2) pa_nil)) pa_nil))) (pe_call (ok_Ldraw T O) (hr.mono (by decide)) (by rfl) O.m_Ldraw O.F_Ldraw.kp O.b_Ldraw .nil pass0 (pa_cons (pv 0) (pa_cons pe_int pa_nil)))))
  (C8.pss_cut (ps_if (pt_cmpR op_lt (pv 9) pe_int (nomark _)) (pss_one (ps_asg (pe_call (ok_Lbent_top T O) (hr.mono (by decide)) (by rfl) O.m_Lbent_top O.F_Lbent_top.kp O.b_Lbent_top .nil pass0 (pa_cons (pv 0) (pa_cons (pv 9) (pa_cons (pe_ix (r := rIxL K) ix_list (pv 2) (pv 9) (fun _ _ => rfl)) pa_nil)))) (pg_tup rfl (pgs_cons (pg_name (i := 10) sc_Lbent_right.nd rfl (Or.inl rfl)) (pgs_cons (pg_name (i := 11) sc_Lbent_right.nd rfl (Or.inl rfl)) pgs_nil))))) (pss_cons (ps_set (i := 12) sc_Lbent_right.nd rfl (Or.inl rfl) (pe_tup (pa_cons (pe_op op_fdivW (pe_op op_sub (pv 9) pe_int) (pe_ix (r := rIx K) ix_seq (pv 4) pe_int (fun _ _ => rfl))) (pa_cons (pe_op op_mod (pe_callTy (r := Jv.rInt) Jv.cr_int (by rfl) O.z_int (by decide +kernel) (pa_cons (pe_op op_sub (pv 9) pe_int) pa_nil)) (pe_ix (r := rIx K) ix_seq (pv 4) pe_int (fun _ _ => rfl))) pa_nil))))
  (pss_one (ps_asg (pe_call (ok_Lbent_couple T O) (hr.mono (by decide)) (by rfl) O.m_Lbent_couple O.F_Lbent_couple.kp O.b_Lbent_couple .nil pass0 (pa_cons (pv 0) (pa_cons (pv 12) (pa_cons (pe_ix (r := rIx K) ix_seq (pe_ix (r := rIx K) ix_seq (pv 5) (pe_ix (r := rIx K) ix_seq (pv 12) pe_int (fun _ _ => rfl)) (fun _ _ => rfl)) (pe_ix (r := rIx K) ix_seq (pv 12) pe_int (fun _ _ => rfl)) (fun _ _ => rfl)) (pa_cons (pv 3) pa_nil))))) (pg_tup rfl (pgs_cons (pg_name (i := 10) sc_Lbent_right.nd rfl (Or.inl rfl)) (pgs_cons (pg_name (i := 11) sc_Lbent_right.nd rfl (Or.inl rfl)) pgs_nil)))))))
  (pss_cons (ps_if (PW.pt (pw_or (pt_cmpR op_isN (pv 7) pe_non (nomark _)) (pw_or1 (pt_cmpR op_le (pe_op op_add (pv 9) pe_int) (pe_ix (r := rIx K) ix_seq (pv 7) pe_int (fun _ _ => rfl)) (nomark _))))) (pss_one (ps_set (i := 7) sc_Lbent_right.nd rfl (Or.inl rfl) (pe_lst (pa_cons pe_str (pa_cons (pe_op op_add (pv 9) pe_int) (pa_cons (pv 11) pa_nil)))))) pss_nil)
  (pss_one (ps_asg (pv 10) (pg_sub (pv 6) (pv 9) set_list)))))))
  (pss_cons (ps_if (pt_cmpR (r := rNeD K) (op_neD hr.units) (pe_call (ok_Lread T O) (hr.mono (by decide)) (by rfl) O.m_Lread O.F_Lread.kp O.b_Lread .nil pass0 (pa_cons (pe_join pe_str (pv 6)) pa_nil)) (pv 7) (nomark _)) (pss_one (ps_ret pe_bl)) pss_nil)
  (pss_cons (ps_set (i := 13) sc_Lbent_right.nd rfl (Or.inl rfl) (pe_callB (r := Jv.rLenK K) Jv.cr_len (by rfl) O.z_len (by decide +kernel) (pa_cons (pv 2) pa_nil)))
  (pss_cons (ps_if (pt_cmpR op_lt (pe_ix (r := rIx K) ix_seq (pv 7) pe_int (fun _ _ => rfl)) (pv 13) (nomark _)) (pss_one (ps_ret (pe_and (pe_cmpR (r := rEqD K) (op_eqD hr.units) (pe_call (ok_Lread T O) (hr.mono (by decide)) (by rfl) O.m_Lread O.F_Lread.kp O.b_Lread .nil pass0 (pa_cons (pe_join pe_str (pe_slice (r := rSlL K) sl_list (pv 6) po_none (po_some (pe_op op_sub (pv 13) pe_int)))) pa_nil)) (pv 7) (nomark _)) (pe_one (pe_cmpR (r := rEqD K) (op_eqD hr.units) (pe_call (ok_Lread T O) (hr.mono (by decide)) (by rfl) O.m_Lread O.F_Lread.kp O.b_Lread .nil pass0 (pa_cons (pe_join pe_str (pe_op op_cat (pv 6) (pe_lst (pa_cons (pe_ix (r := rIxL K) ix_list (pv 2) (pe_op op_sub (pv 13) pe_int) (fun _ _ => rfl)) pa_nil)))) pa_nil)) (pv 7) (nomark _)))))) pss_nil)
  (pss_one (ps_ret pe_bl))))))))), ?_⟩
  walk_at "r"
  refine Jv.r_listOf (.inl (Jv.sqL_at hD)) fun b hb => ?_
  have sb := Jv.same_new (u := .lst ((textS l p q k0 k1 L).map V.str)) hb
  have eb : upd H b (.lst ((textS l p q k0 k1 L).map V.str)) b = some (.lst ((textS l p q k0 k1 L).map V.str)) := upd_same
  generalize upd H b (.lst ((textS l p q k0 k1 L).map V.str)) = H1 at sb eb ⊢
  have nbh : b ≠ h := (hh.ne2 hb).1
  walk_at "r"
  refine ⟨h, hl, 3, rfl, hh.same sb, ⟨by decide, by decide⟩, fun d H2 d0 d3 k2 h2 => ?_⟩
  walk_at "r"
  refine ⟨1 + d, rfl, by omega, by omega, ?_⟩
  refine for_range (lo := 0) (n := (1 + d).toNat) (fun j σ H' => BrSt K h hl g D s w L l p q k0 k1 H b j σ H') ⟨.non, textS l p q k0 k1 L, _, _, _, _, _, rfl, ⟨fun c o n e => k2 c o n (sb _ _ e), h2, hb, k2 _ _ nbh eb, tl, lin_text wd⟩, .inl ⟨rfl, rfl, rfl⟩⟩ ?_ ?_
  · rintro j σ H3 hj ⟨dv, B, y8, y9, y10, y11, y12, rfl, br, due⟩
    have due2 : (dv = .non ∧ B = textS l p q k0 k1 L) ∨ Due L l p q k0 k1 B b H H3 dv := due.elim (fun e => .inl e.2) .inr
    clear due
    walk_at "r"
    refine ⟨h, hl, 3, rfl, br.hh, ⟨by decide, by decide⟩, fun d4 H4 d40 d43 k4 h4 => ?_⟩
    walk_at "r"
    have eD4 : ∀ {H5 : Hp}, Jv.Kp h H3 H5 → H5 D = some (.lst ((textS l p q k0 k1 L).map V.str)) := fun k5 => k5 _ _ nDh (br.kp _ _ nDh hD)
    refine r_ifg (G := fun a H' => Jv.Kp h H3 H' ∧ Jv.Hand H' h hl ∧ a < 3 + p * q) (fun Q' hQ' => ?_) (fun a H5 ⟨k5, h5, ha⟩ => ?_)
    · refine Jv.r_dec (fun _ => ?_) (fun _ => ?_)
      · have sq4 : SqL K H4 D ((textS l p q k0 k1 L).map V.str) := Jv.sqL_at (eD4 k4)
        walk_at "r"
        rw [List.length_map, tl]
        refine ⟨h, hl, _, rfl, h4, ⟨by omega, log_bd (by omega) (by omega)⟩, fun a H5 a0 a1 k5 h5 => ?_⟩
        have := hQ' a.toNat H5 ⟨k4.trans k5, h5, by omega⟩
        rw [show ((a.toNat : Nat) : Int) = a by omega] at this
        exact this
      · walk_at "r"
        refine ⟨h, hl, 3, rfl, h4, ⟨by decide, by decide⟩, fun a H5 a0 a1 k5 h5 => ?_⟩
        have := hQ' a.toNat H5 ⟨k4.trans k5, h5, by omega⟩
        rw [show ((a.toNat : Nat) : Int) = a by omega] at this
        exact this
    have br5 := br.to nbh k5 h5
    have due5 := Due.to due2 k5 hh.at
    have eD5 := eD4 k5
    have es5 := k5 _ _ nsh (br.kp _ _ nsh hs)
    have hw5 : Jv.Dv K (Jv.hide [h] H5) w (wantT L) := hw.same (Jv.hide_kp (N := [h]) (M := [h]) (List.mem_singleton.mpr rfl) (fun _ m => m) br5.kp)
    clear br due2 k4 h4 k5 h5 hj
    refine ⟨BrMid K h hl g D s w L l p q k0 k1 H b, ?_, ?_⟩
    · walk_at "r"
      refine Jv.r_dec (fun a3 => ?_) (fun a3 => ?_)
      · have a3' : a < 3 := by omega
        obtain ⟨y, hy1, hy2⟩ := head_at (L := L) (l := l) (p := p) (q := q) (k0 := k0) (k1 := k1) a3'
        walk_at "r"
        refine Jv.r_ixL (Jv.sqL_at eD5) (Jv.at_i (v := .str y) (by omega) (by rw [Int.toNat_natCast, List.getElem?_map, hy1]; rfl)) ?_
        walk_at "r"
        refine ⟨h, hl, a, l, p, q, y, k0, k1, rfl, br5.hh, ⟨by omega, by omega, by omega⟩, hy2, fun t x H6 bx k6 h6 et => ?_⟩
        walk_at "r"
        exact ⟨dv, B, _, a, x, _, rfl, br5.to nbh k6 h6, ⟨ha, bx⟩, Due.to due5 k6 hh.at⟩
      · obtain ⟨i, rfl⟩ : ∃ i, a = 3 + i := ⟨a - 3, by omega⟩
        have hi : i < p * q := by omega
        have hc := cp_div (p := p) (q := q) (by omega) hi
        obtain ⟨ce, cf⟩ := cpN_mem (List.mem_of_getElem? hc)
        have skS5 : Jv.Sk K H5 (.ref s) [.int p, .int q] := ⟨s, rfl, .inr (Jv.sqT_at es5)⟩
        walk_at "r"
        rw [show (((3 + i : Nat) : Int) - 3) = (i : Int) by omega]
        refine skS5.ix (v := .int q) (by rfl) ?_
        walk_at "r"
        rw [show (((3 + i : Nat) : Int) - 3) = (i : Int) by omega]
        refine skS5.ix (v := .int q) (by rfl) ?_
        walk_at "r"
        rw [show ((i : Int) / (q : Int)) = ((i / q : Nat) : Int) from rfl, show ((i : Int) % (q : Int)) = ((i % q : Nat) : Int) from rfl]
        intro t ht
        have n6 := Jv.same_new (u := .tup [.int ((i / q : Nat) : Int), .int ((i % q : Nat) : Int)]) ht
        have et : upd H5 t (.tup [.int ((i / q : Nat) : Int), .int ((i % q : Nat) : Int)]) t = some (.tup [.int ((i / q : Nat) : Int), .int ((i % q : Nat) : Int)]) := upd_same
        generalize upd H5 t (.tup [.int ((i / q : Nat) : Int), .int ((i % q : Nat) : Int)]) = H6 at n6 et ⊢
        have skt : Jv.Sk K H6 (.ref t) [.int ((i / q : Nat) : Int), .int ((i % q : Nat) : Int)] := ⟨t, rfl, .inr (Jv.sqT_at et)⟩
        have hw6 := hw5.same (Jv.hide_same (N := [h]) n6)
        obtain ⟨us, y, xs, v, w1, w2, w3, w4, w5⟩ := cell_sk hw6 wd ce cf
        obtain ⟨line, zs, _, _, m1, m2, ec⟩ := cell_wd wd ce cf
        obtain ⟨fz, rz, fw⟩ := few_wd wd m1 m2
        have ec2 : cellN L (i / q, i % q) = zs := ec
        have gz := good_wd wd ce cf
        rw [ec2] at w5
        rw [show cellN L ((i / q, i % q).1, (i / q, i % q).2) = zs from ec] at gz
        have h6 := br5.hh.same n6
        walk_at "r"
        refine skt.ix (v := .int ((i / q : Nat) : Int)) (by rfl) ?_
        refine (w1.same Jv.hide_le).ix (Jv.at_i (Int.natCast_nonneg _) (by rw [Int.toNat_natCast]; exact w2)) ?_
        walk_at "r"
        refine skt.ix (v := .int ((i % q : Nat) : Int)) (by rfl) ?_
        refine (w3.same Jv.hide_le).ix (Jv.at_i (Int.natCast_nonneg _) (by rw [Int.toNat_natCast]; exact w4)) ?_
        walk_at "r"
        have ce2 : i / q < p := ce
        have cf2 : i % q < q := cf
        refine ⟨h, hl, t, v, zs, i / q, i % q, l, rfl, h6, et, w5, ⟨by omega, by omega, by omega⟩, gz, fz, fun t2 x H7 bx k7 h7 et2 => ?_⟩
        walk_at "r"
        have k57 : Jv.Kp h H5 H7 := fun c o n e => k7 c o n (n6 _ _ e)
        exact ⟨dv, B, _, 3 + i, x, _, rfl, br5.to nbh k57 h7, ⟨ha, ⟨.inr (.inr (.inr ⟨i, _, rfl, hc, bx.e⟩)), bx.nl, bx.len⟩⟩, Due.to due5 k57 hh.at⟩
    · rintro σ H6 ⟨dv, B, y8, a, x, y12, rfl, br, ⟨ha, bx⟩, due⟩
      have ixB : ixN (B.map V.str).length ((a : Nat) : Int) = some a := Jv.ixN_of (by rw [List.length_map, br.lb]; exact ha)
      have eM : (B.map V.str).set a (.str x.1) = (B.set a x.1).map V.str := List.map_set.symm
      rcases due with ⟨rfl, rfl⟩ | ⟨d', a', f, y, rfl, e2, e3, e4, e5, e6, e7, e8⟩
      · walk_at "r"
        intro d' hd
        walk_at "r"
        refine Jv.r_setL (Jv.same_new hd _ _ br.eb) ixB ?_
        rw [eM]
        exact ⟨.ref d', _, _, _, _, _, _, rfl, br.store hh (Jv.same_new hd) bx, .inr (br.due hd ha bx fun _ _ => rfl)⟩
      · have skd : Jv.Sk K H6 (.ref d') [.str (Str.ofString "bad"), .int ((a' + 1 : Nat) : Int), .str f] := ⟨d', rfl, .inl (Jv.sqL_at e4)⟩
        walk_at "r"
        refine skd.ix (v := .int ((a' + 1 : Nat) : Int)) (by rfl) ?_
        walk_at "r"
        refine Jv.r_dec (fun le => ?_) (fun gt => ?_)
        · walk_at "r"
          intro d2 hd
          walk_at "r"
          refine Jv.r_setL (Jv.same_new hd _ _ br.eb) ixB ?_
          rw [eM]
          exact ⟨.ref d2, _, _, _, _, _, _, rfl, br.store hh (Jv.same_new hd) bx, .inr (br.due hd ha bx fun i hi => e5 i (by omega))⟩
        · walk_at "r"
          refine Jv.r_setL br.eb ixB ?_
          rw [eM]
          exact ⟨.ref d', _, _, _, _, _, _, rfl, br.store hh (Same.refl _) bx, .inr (Due.keep e2 e3 e4 e5 e6 e7 e8 (by omega) (Same.refl _))⟩
  · rintro σ H3 ⟨dv, B, y8, y9, y10, y11, y12, rfl, br, due⟩
    have due2 : Due L l p q k0 k1 B b H H3 dv := due.elim (fun e => absurd e.1 (by omega)) id
    obtain ⟨d', a', f, y, rfl, e2, e3, e4, e5, e6, e7, e8⟩ := due2
    have skd : ∀ {H4 : Hp}, Same H3 H4 → Jv.Sk K H4 (.ref d') [.str (Str.ofString "bad"), .int ((a' + 1 : Nat) : Int), .str f] := fun s4 => ⟨d', rfl, .inl (Jv.sqL_at (s4 _ _ e4))⟩
    have eD3 := br.kp _ _ nDh hD
    have bad := goal_bent wd e5 e6 e7
    walk_at "r"
    refine Jv.r_m1 ?_
    walk_at "r"
    refine ⟨⟨_, rfl⟩, ?_⟩
    walk_at "r"
    refine ⟨_, b, B, rfl, rfl, .inl (Jv.sqL_at br.eb), br.lin.sum, ?_⟩
    have okf := fault_ok e7
    walk_at "r"
    refine read_bad br.lin bad fun D4 H4 s4 n4 er4 => ?_
    walk_at "r"
    refine ⟨_, _, (dv_bad er4).dp, (dv_bad (s4 _ _ e4)).dp, shaped_bad okf, shaped_bad okf, ?_⟩
    rw [eqv_bad okf]
    have sq4 : SqL K H4 D ((textS l p q k0 k1 L).map V.str) := Jv.sqL_at (s4 _ _ eD3)
    walk_at "r"
    rw [List.length_map, tl]
    refine (skd s4).ix (v := .int ((a' + 1 : Nat) : Int)) (by rfl) ?_
    walk_at "r"
    refine Jv.r_dec (fun lt => ?_) (fun ge => ?_)
    · have ha2 : a' < 3 + p * q - 1 := by omega
      have eb4 := s4 _ _ br.eb
      walk_at "r"
      refine Jv.r_m1 ?_
      walk_at "r"
      refine ⟨⟨_, rfl⟩, ?_⟩
      refine Jv.r_tSl ?_
      walk_at "r"
      refine Jv.r_noPart ?_
      refine Jv.r_part ?_
      walk_at "r"
      refine Jv.r_partI ?_
      refine Jv.r_slL eb4 fun t5 H5 n5 s5 e5' => ?_
      rw [Jv.cut_take (by omega), show (((3 + p * q : Nat) : Int) - 1).toNat = 3 + p * q - 1 by omega, ← List.map_take] at e5'
      refine ⟨_, t5, B.take (3 + p * q - 1), rfl, rfl, .inl (Jv.sqL_at e5'), (br.lin.take (by omega)).sum, ?_⟩
      have bad2 := goal_bent (B := B.take (3 + p * q - 1)) wd (fun i hi => by rw [List.getElem?_take_of_lt (by omega)]; exact e5 i hi) (by rw [List.getElem?_take_of_lt ha2]; exact e6) e7
      walk_at "r"
      refine read_bad (br.lin.take (by omega)) bad2 fun D6 H6 s6 n6 er6 => ?_
      walk_at "r"
      have s46 := s4.trans (s5.trans s6)
      refine ⟨_, _, (dv_bad er6).dp, (dv_bad (s46 _ _ e4)).dp, shaped_bad okf, shaped_bad okf, ?_⟩
      rw [eqv_bad okf]
      obtain ⟨z, hz⟩ : ∃ z, (textS l p q k0 k1 L)[3 + p * q - 1]? = some z := ⟨_, List.getElem?_eq_getElem (by omega)⟩
      have okz := (lin_text (k0 := k0) (k1 := k1) wd).ok z (List.mem_of_getElem? hz)
      have eD6 := s46 _ _ eD3
      walk_at "r"
      refine Jv.r_m1 ?_
      walk_at "r"
      refine ⟨⟨_, rfl⟩, ?_⟩
      walk_at "r"
      refine Jv.r_ixL (Jv.sqL_at eD6) (Jv.at_i (v := .str z) (by omega) (by rw [show (((3 + p * q : Nat) : Int) - 1).toNat = 3 + p * q - 1 by omega, List.getElem?_map, hz]; rfl)) ?_
      walk_at "r"
      intro u hu
      refine Jv.r_cat (Jv.same_new hu _ _ (s46 _ _ br.eb)) upd_same (by rw [List.length_map, br.lb]; show _ + 1 ≤ 1000; omega) fun t7 H7 n7 s7 e7' => ?_
      have s47 := s46.trans ((Jv.same_new hu).trans s7)
      have e8' : H7 t7 = some (.lst ((B ++ [z]).map V.str)) := by rw [e7', List.map_append]; rfl
      have lin2 := br.lin.snoc (by rw [br.lb]; omega) okz
      refine ⟨_, t7, B ++ [z], rfl, rfl, .inl (Jv.sqL_at e8'), lin2.sum, ?_⟩
      have bad3 := goal_bent (B := B ++ [z]) wd (fun i hi => by rw [List.getElem?_append_left (by rw [br.lb]; omega)]; exact e5 i hi) (by rw [List.getElem?_append_left (by rw [br.lb]; omega)]; exact e6) e7
      walk_at "r"
      refine read_bad lin2 bad3 fun D8 H8 s8 n8 er8 => ?_
      walk_at "r"
      have s48 := s47.trans s8
      refine ⟨_, _, (dv_bad er8).dp, (dv_bad (s48 _ _ e4)).dp, shaped_bad okf, shaped_bad okf, ?_⟩
      rw [eqv_bad okf]
      exact kQ _ (fun c o n e => s48 _ _ (br.kp c o n e)) (br.hh.same s48)
    · walk_at "r"
      exact kQ _ (fun c o n e => s4 _ _ (br.kp c o n e)) (br.hh.same s4)
end
end K07

namespace K07
open PySem PySem.Spec PyProof.Rows L2
/-! ### goals that are equal -/
theorem eqvAll_map {α : Type} [DecidableEq α] {f : α → PyData} (h : ∀ x y, PyData.eqv (f x) (f y) = decide (x = y)) : ∀ l m : List α, PyData.eqvAll (l.map f) (m.map f) = decide (l = m)
  | [], [] => rfl
  | [], b :: s => by simp [PyData.eqvAll]
  | a :: r, [] => by simp [PyData.eqvAll]
  | a :: r, b :: s => by
    rw [List.map_cons, List.map_cons, PyData.eqvAll, h, eqvAll_map h r s]
    by_cases e1 : a = b <;> by_cases e2 : r = s <;> simp [e1, e2]
theorem eqv_wants (L1 L2 : List (List (List Int))) : PyData.eqv (wantT L1) (wantT L2) = decide (L1 = L2) := by
  unfold wantT
  rw [PyData.eqv]
  refine eqvAll_map (fun a b => ?_) _ _
  unfold lineT
  rw [PyData.eqv]
  refine eqvAll_map (fun c d => ?_) _ _
  rw [PyData.eqv]
  exact eqvAll_map (fun i j => by rw [PyData.eqv]; by_cases e : i = j <;> simp [e]) _ _
theorem eqv_bools (a b c d : Bool) : PyData.eqv (.tuple [.bool a, .bool b]) (.tuple [.bool c, .bool d]) = decide (a = c ∧ b = d) := by
  cases a <;> cases b <;> cases c <;> cases d <;> decide
def sp_Goals_eq (K : PySem.W.Frag) (C : Addr) : Sp := fun vs H Q _ => ∃ a b l L k0 k1, ∃ p q : Int, vs = [.ref a, .ref b] ∧ GAt K H C a l (wantT L) k0 k1 p q ∧
  ((∃ l2 L2 m0 m1, ∃ p2 q2 : Int, GAt K H C b l2 (wantT L2) m0 m1 p2 q2 ∧ Q (.bl (decide (l = l2 ∧ L = L2 ∧ k0 = m0 ∧ k1 = m1))) H) ∨ (∃ ys, SqT K H b ys ∧ Q (.bl false) H))
section
variable {P : Program} {w : World} {K : PySem.W.Frag} {mg : Str → Option Value} {base : Heap}
theorem ok_Goalsu_equ (T : Tx) (O : Ok K mg T) : FnOk P w K mg base CX0 1 T.f_Goalsu_equ T.d_Goalsu_equ ["self", "other"] (sp_Goals_eq K T.C_Goals) := by
  refine O.F_Goalsu_equ.ok sc_Goalsu_equ (fun vs H Q E h => by obtain ⟨_, _, _, _, _, _, _, _, rfl, _⟩ := h; rfl) (fun cdv A outer s H vs Q E hr h => ?_)
  obtain ⟨a, b, l, L, k0, k1, p, q, rfl, ha, qq⟩ := h
  refine ⟨_, (pss_one (ps_ret (pe_and (pe_callB (r := rIsi K) call_isi (by rfl) O.z_isinstance (by decide +kernel) (pa_cons (pv 1) (pa_cons (pe_glob (v := .ref _) (by rfl) O.m_Goals rfl) pa_nil))) (pe_and (pe_cmpR op_eq (show PE _ _ (tFld K _ _) from pe_fld (pv 0) rfl) (show PE _ _ (tFld K _ _) from pe_fld (pv 1) rfl) (nomark _)) (pe_and (pe_cmpR (r := rEqD K) (op_eqD hr.units) (show PE _ _ (tFld K _ _) from pe_fld (pv 0) rfl) (show PE _ _ (tFld K _ _) from pe_fld (pv 1) rfl) (nomark _)) (pe_one (pe_cmpR (r := rEqD K) (op_eqD hr.units) (show PE _ _ (tFld K _ _) from pe_fld (pv 0) rfl) (show PE _ _ (tFld K _ _) from pe_fld (pv 1) rfl) (nomark _)))))))), ?_⟩
  obtain ⟨dx, wv, kv, tv, hca, hW, hK, _⟩ := id ha
  walk_at "r"
  rcases qq with ⟨l2, L2, m0, m1, p2, q2, hb, k⟩ | ⟨ys, hb, k⟩
  · obtain ⟨dx2, wv2, kv2, tv2, hcb, hW2, hK2, _⟩ := id hb
    refine ⟨_, _, _, _, true, rfl, .own T.C_Goals, .base (.ins hcb O.o_Goals O.i_Goals_ca O.i_Goals_cn O.i_Goals_ct O.i_Goals_cm), by simp [PySem.W.kitOne], ?_⟩
    walk_at "r"
    refine Jv.r_fld ?_
    walk_at "r"
    refine ⟨a, _, dx, _, _, rfl, hca, O.o_Goals, O.n_Goals_ladder, rfl, ?_⟩
    walk_at "r"
    refine Jv.r_fld ?_
    walk_at "r"
    refine ⟨b, _, dx2, _, _, rfl, hcb, O.o_Goals, O.n_Goals_ladder, rfl, ?_⟩
    walk_at "r"
    by_cases e1 : l = l2
    case neg =>
      rw [decide_eq_false (fun h => e1 h.1)] at k
      walk_at "r"
      rw [decide_eq_false (fun e => e1 (V.int.inj e)), if_neg Bool.false_ne_true]
      exact k
    subst e1
    walk_at "r"
    rw [decide_eq_true rfl, if_pos rfl]
    walk_at "r"
    refine Jv.r_fld ?_
    walk_at "r"
    refine ⟨a, _, dx, _, _, rfl, hca, O.o_Goals, O.n_Goals_wanted, rfl, ?_⟩
    walk_at "r"
    refine Jv.r_fld ?_
    walk_at "r"
    refine ⟨b, _, dx2, _, _, rfl, hcb, O.o_Goals, O.n_Goals_wanted, rfl, ?_⟩
    walk_at "r"
    refine ⟨_, _, hW.dp, hW2.dp, shaped_want _, shaped_want _, ?_⟩
    rw [eqv_wants]
    by_cases e2 : L = L2
    case neg =>
      rw [decide_eq_false (fun h => e2 h.2.1)] at k
      rw [decide_eq_false e2]
      walk_at "r"
      exact k
    subst e2
    rw [decide_eq_true rfl]
    walk_at "r"
    refine Jv.r_fld ?_
    walk_at "r"
    refine ⟨a, _, dx, _, _, rfl, hca, O.o_Goals, O.n_Goals_knows, rfl, ?_⟩
    walk_at "r"
    refine Jv.r_fld ?_
    walk_at "r"
    refine ⟨b, _, dx2, _, _, rfl, hcb, O.o_Goals, O.n_Goals_knows, rfl, ?_⟩
    walk_at "r"
    refine ⟨_, _, hK.dp, hK2.dp, shaped_bb _ _, shaped_bb _ _, ?_⟩
    rw [eqv_bools]
    have e3 : decide (l = l ∧ L = L ∧ k0 = m0 ∧ k1 = m1) = decide (k0 = m0 ∧ k1 = m1) := by simp
    rw [e3] at k
    exact k
  · refine ⟨_, _, _, _, false, rfl, .own T.C_Goals, Jv.tyT hb, O.i_Goals_kt, ?_⟩
    walk_at "r"
    exact k
end
end K07

namespace K07
open PySem PySem.Spec PyProof.Rows L2
/-! ### the law -/
section
variable {K : PySem.W.Frag} {H H' : Hp} {N : List Addr}
theorem _root_.Jv.Hand.lst {H : Hp} {p l : Addr} (h : Jv.Hand H p l) : ∀ b ∈ [p], ∃ ys, H b = some (.lst ys) := fun b m => by
  rw [List.mem_singleton.mp m]
  obtain ⟨_, _, _, _, hA⟩ := h
  exact ⟨_, hA.hp⟩
theorem _root_.Jv.Hand.neTup {H : Hp} {p l b : Addr} {xs : List V} (h : Jv.Hand H p l) (e : H b = some (.tup xs)) : b ≠ p := fun z => by
  obtain ⟨_, _, _, _, hA⟩ := h
  rw [z, hA.hp] at e; cases e
theorem dvW_hide (hN : ∀ b ∈ N, ∃ ys, H b = some (.lst ys)) {v : V} {L : List (List (List Int))} (h : Jv.Dv K H v (wantT L)) : Jv.Dv K (Jv.hide N H) v (wantT L) := by
  cases h with
  | tup e q =>
    refine .tup (Jv.sqT_hide hN e) (q.imp fun v d m dv => ?_)
    obtain ⟨line, _, rfl⟩ := List.mem_map.mp m
    cases dv with
    | tup e q =>
      refine .tup (Jv.sqT_hide hN e) (q.imp fun v d m dv => ?_)
      obtain ⟨ns, _, rfl⟩ := List.mem_map.mp m
      cases dv with
      | tup e q =>
        refine .tup (Jv.sqT_hide hN e) (q.imp fun v d m dv => ?_)
        obtain ⟨n, _, rfl⟩ := List.mem_map.mp m
        cases dv
        exact .int _
theorem dvF_hide (hN : ∀ b ∈ N, ∃ ys, H b = some (.lst ys)) {v : V} {d1 d2 : PyData} (f1 : Jv.seqD d1 = none) (f2 : Jv.seqD d2 = none) (h : Jv.Dv K H v (.tuple [d1, d2])) : Jv.Dv K (Jv.hide N H) v (.tuple [d1, d2]) := by
  cases h with
  | tup e q =>
    refine .tup (Jv.sqT_hide hN e) (q.imp fun v d m dv => ?_)
    have fl : Jv.seqD d = none := by
      simp only [List.mem_cons, List.not_mem_nil, or_false] at m
      rcases m with rfl | rfl <;> assumption
    cases dv with
    | non => exact .non
    | bl b => exact .bl b
    | int i => exact .int i
    | str x => exact .str x
    | lst _ _ => cases fl
    | tup _ _ => cases fl
theorem GAt.hide {C a : Addr} {l : Int} {L : List (List (List Int))} {k0 k1 : Bool} {p q : Int} (hN : ∀ b ∈ N, ∃ ys, H b = some (.lst ys)) (h : GAt K H C a l (wantT L) k0 k1 p q) : GAt K (Jv.hide N H) C a l (wantT L) k0 k1 p q := by
  obtain ⟨dx, w, t, s, h1, h2, h3, h4⟩ := h
  exact ⟨dx, w, t, s, Jv.hide_at (fun m => by obtain ⟨ys, e⟩ := hN a m; rw [h1] at e; cases e) h1, dvW_hide hN h2, dvF_hide hN rfl rfl h3, dvF_hide hN rfl rfl h4⟩

/-- what stands while the law goes on -/
structure St7 (K : PySem.W.Frag) (C h hl sA kA g D : Addr) (w : V) (L : List (List (List Int))) (l p q : Nat) (k0 k1 : Bool) (H : Hp) : Prop where
  hh : Jv.Hand H h hl
  es : H sA = some (.tup [.int p, .int q])
  ek : H kA = some (.tup [.bl k0, .bl k1])
  dw : Jv.Dv K (Jv.hide [h] H) w (wantT L)
  ga : GAt K (Jv.hide [h] H) C g l (wantT L) k0 k1 p q
  nD : D ≠ h
  eD : H D = some (.lst ((textS l p q k0 k1 L).map V.str))
theorem St7.kp {C h hl sA kA g D : Addr} {w : V} {L : List (List (List Int))} {l p q : Nat} {k0 k1 : Bool} (t : St7 K C h hl sA kA g D w L l p q k0 k1 H) (k : Jv.Kp h H H') (hh : Jv.Hand H' h hl) : St7 K C h hl sA kA g D w L l p q k0 k1 H' :=
  ⟨hh, k _ _ (t.hh.neTup t.es) t.es, k _ _ (t.hh.neTup t.ek) t.ek, t.dw.same k.hide, t.ga.same k.hide, t.nD, k _ _ t.nD t.eD⟩
theorem St7.same {C h hl sA kA g D : Addr} {w : V} {L : List (List (List Int))} {l p q : Nat} {k0 k1 : Bool} (t : St7 K C h hl sA kA g D w L l p q k0 k1 H) (s : Same H H') : St7 K C h hl sA kA g D w L l p q k0 k1 H' := t.kp (fun c o _ e => s _ _ e) (t.hh.same s)
theorem St7.g0 {C h hl sA kA g D : Addr} {w : V} {L : List (List (List Int))} {l p q : Nat} {k0 k1 : Bool} (t : St7 K C h hl sA kA g D w L l p q k0 k1 H) : GAt K H C g l (wantT L) k0 k1 p q := t.ga.same Jv.hide_le
end
theorem r_make0 {C : Addr} {sp : Sp} {dvs : List V} {E : XK} {t : TA} {σ : L2.St} {H : Hp} {Q : VK} (h : t σ H fun vs H1 => ∀ x dx, H1 x = none → H1 dx = none → dx ≠ x →
  sp (.ref x :: (vs ++ dvs)) (L2.upd (L2.upd H1 dx (.own x)) x (.ins C dx [])) (fun v H2 => v = .non ∧ Q (.ref x) H2) E) : tMake C sp dvs E t σ H Q := h
theorem gen_make {C : Addr} {sp : Sp} {dvs : List V} {E : XK} {t : TA} {σ : L2.St} {H : Hp} {Q : VK} (h : ∀ Q' : VK, (∀ v H, Q v H → Q' v H) → tMake C sp dvs E t σ H Q') : tMake C sp dvs E t σ H Q := h Q fun _ _ q => q
theorem good_of {L : List (List (List Int))} {l p q : Nat} {k0 k1 : Bool} (w : Wd l L p q) : GoodG (.int l) (wantT L) (.tuple [.bool k0, .bool k1]) l L k0 k1 p q :=
  ⟨rfl, w.l0, w.l6, linesT, w.hp, w.hq, w.p0, w.p6, w.q0, w.q6, w.pq, fun line h1 ns h2 => ⟨(w.ends line h1 ns h2).1, (w.range h1 h2).1, (w.range h1 h2).2⟩, rfl⟩
theorem ne_goals {K : PySem.W.Frag} {C a b : Addr} {E : XK} {L : List (List (List Int))} {l : Int} {p q : Int} {k0 k1 : Bool} {H : Hp} {Q : VK} (ha : GAt K H C a l (wantT L) k0 k1 p q) (hb : GAt K H C b l (wantT L) k0 k1 p q) (k : Q (.bl false) H) : Jv.rNeO K C (sp_Goals_eq K C) E (.ref a) (.ref b) H Q := by
  obtain ⟨dx, _, _, _, h1, _⟩ := id ha
  obtain ⟨dy, _, _, _, h2, _⟩ := id hb
  exact ⟨a, dx, _, b, rfl, rfl, h1, .inl ⟨dy, _, h2⟩, a, b, l, L, k0, k1, p, q, rfl, ha, .inl ⟨l, L, k0, k1, p, q, hb, _, rfl, by rw [decide_eq_true ⟨rfl, rfl, rfl, rfl⟩]; exact k⟩⟩
theorem joinN_cons (a : Str) {ws : List Str} (h : ws ≠ []) : Txt.join nlT (a :: ws) = a ++ nlT ++ Txt.join nlT ws := by
  rw [TL.join_eq, TL.join_eq]
  cases ws with
  | nil => exact absurd rfl h
  | cons b r => rfl
theorem joinN_one (a : Str) : Txt.join nlT [a] = a := by rw [TL.join_eq]; rfl
theorem joinN_snoc {w : Str} : ∀ {ws : List Str}, ws ≠ [] → Txt.join nlT (ws ++ [w]) = Txt.join nlT ws ++ nlT ++ w
  | [], h => absurd rfl h
  | [a], _ => by rw [List.cons_append, joinN_cons a (by simp), List.nil_append, joinN_one, joinN_one]
  | a :: b :: r, _ => by
    rw [List.cons_append, joinN_cons a (by simp), joinN_snoc (ws := b :: r) (by simp), joinN_cons a (ws := b :: r) (by simp), app_assoc, app_assoc, app_assoc, app_assoc, app_assoc]
theorem lin_one : Lin [Str.ofString ""] := ⟨by simp, Nat.le_of_ble_eq_true rfl, fun y hy => by rw [List.mem_singleton.mp hy]; exact ⟨by decide +kernel, by decide +kernel⟩⟩
theorem goal_none : goalB [Str.ofString ""] = .error (1, Str.ofString "form") := by
  have e : ladB [Str.ofString ""] = .error (Str.ofString "form") := okE_is (by decide +kernel)
  unfold goalB
  rw [e]
def sp_law (K : PySem.W.Frag) : Sp := fun vs H Q _ => ∃ (a : Addr) (ns : List Int), vs = [.ref a] ∧ SqL K H a (ns.map V.int) ∧ ns.length ≤ 63 ∧ ∀ H', Q (.bl true) H'
section
variable {P : Program} {w : World} {K : PySem.W.Frag} {mg : Str → Option Value} {base : Heap}
theorem ok_law (T : Tx) (O : Ok K mg T) : FnOk P w K mg base CX0 10 T.f_law T.d_law ["_law_script"] (sp_law K) := by
  refine O.F_law.ok sc_law (fun vs H Q E h => by obtain ⟨_, _, rfl, _⟩ := h; rfl) (fun cdv A outer s H vs Q E hr hyp => ?_)
  obtain ⟨sc, ns, rfl, hS, few, k⟩ := hyp
  refine ⟨_, (pss_cons (ps_set (i := 1) sc_law.nd rfl (Or.inl rfl) (pe_call (ok_Lhand T O) (hr.mono (by decide)) (by rfl) O.m_Lhand O.F_Lhand.kp O.b_Lhand .nil pass0 (pa_cons (pv 0) pa_nil)))
  (pss_cons (ps_for PassesOwn.never rfl (pi_range1 (by rfl) O.z_range (pa_cons pe_int pa_nil)) (pg_name (i := 2) sc_law.nd rfl (Or.inl rfl)) (pss_cons (ps_set (i := 3) sc_law.nd rfl (Or.inl rfl) (pe_call (ok_Lwide_sides T O) (hr.mono (by decide)) (by rfl) O.m_Lwide_sides O.F_Lwide_sides.kp O.b_Lwide_sides .nil pass0 (pa_cons (pv 1) pa_nil)))
  (pss_cons (ps_set (i := 4) sc_law.nd rfl (Or.inl rfl) (pe_call (ok_Ldraw T O) (hr.mono (by decide)) (by rfl) O.m_Ldraw O.F_Ldraw.kp O.b_Ldraw .nil pass0 (pa_cons (pv 1) (pa_cons pe_int pa_nil))))
  (pss_cons (ps_set (i := 5) sc_law.nd rfl (Or.inl rfl) (pe_call (ok_Lneat_wanted T O) (hr.mono (by decide)) (by rfl) O.m_Lneat_wanted O.F_Lneat_wanted.kp O.b_Lneat_wanted .nil pass0 (pa_cons (pe_call (ok_Lraw_wanted T O) (hr.mono (by decide)) (by rfl) O.m_Lraw_wanted O.F_Lraw_wanted.kp O.b_Lraw_wanted .nil pass0 (pa_cons (pv 1) (pa_cons (pv 3) (pa_cons (pv 4) pa_nil)))) (pa_cons (pv 4) pa_nil))))
  (pss_cons (ps_set (i := 6) sc_law.nd rfl (Or.inl rfl) (pe_call (ok_Ltruths T O) (hr.mono (by decide)) (by rfl) O.m_Ltruths O.F_Ltruths.kp O.b_Ltruths .nil pass0 (pa_cons (pv 1) pa_nil)))
  (pss_cons (ps_set (i := 7) sc_law.nd rfl (Or.inl rfl) (pe_make (E := E0) O.k_Goals (ok_Goalsu_initu T O) (hr.mono (by decide)) (by rfl) O.m_Goals O.b_Goalsu_initu .nil passL (pa_cons (pv 4) (pa_cons (pv 5) (pa_cons (pv 6) pa_nil)))))
  (pss_cons (ps_set (i := 8) sc_law.nd rfl (Or.inl rfl) (pe_call (ok_Ltext T O) (hr.mono (by decide)) (by rfl) O.m_Ltext O.F_Ltext.kp O.b_Ltext .nil pass0 (pa_cons (pv 4) (pa_cons (pv 3) (pa_cons (pv 6) (pa_cons (pv 5) pa_nil))))))
  (pss_cons (ps_set (i := 9) sc_law.nd rfl (Or.inl rfl) (pe_join pe_str (pv 8)))
  (pss_cons (ps_if (PW.pt (pw_or (pt_cmpR op_ne (pe_call (ok_goals_text T O) (hr.mono (by decide)) (by rfl) O.m_goals_text O.F_goals_text.kp O.b_goals_text .nil pass0 (pa_cons (pv 7) pa_nil)) (pv 9) (nomark _)) (pw_or1 (pt_not (pt_val (pe_callB (r := rIsi K) call_isi (by rfl) O.z_isinstance (by decide +kernel) (pa_cons (pe_call (ok_goals_text T O) (hr.mono (by decide)) (by rfl) O.m_goals_text O.F_goals_text.kp O.b_goals_text .nil pass0 (pa_cons (pv 7) pa_nil)) (pa_cons (pe_bltn (v := .ty "str") (by rfl) O.z_str (by decide +kernel) rfl) pa_nil)))))))) (pss_one (ps_ret pe_bl)) pss_nil)
  (pss_cons (ps_set (i := 10) sc_law.nd rfl (Or.inl rfl) (pe_call (ok_Lread T O) (hr.mono (by decide)) (by rfl) O.m_Lread O.F_Lread.kp O.b_Lread .nil pass0 (pa_cons (pv 9) pa_nil)))
  (pss_cons (ps_if (PW.pt (pw_or (pt_not (pt_val (pe_callB (r := rIsi K) call_isi (by rfl) O.z_isinstance (by decide +kernel) (pa_cons (pv 10) (pa_cons (pe_glob (v := .ref _) (by rfl) O.m_Goals rfl) pa_nil))))) (pw_or (pt_cmpR (Jv.op_neO (ok_Goalsu_equ T O) O.h_Goalsu_equ O.i_Goals_ne O.i_Goals_cm O.i_Goals_nt (hr.mono (by decide)) O.b_Goalsu_equ pass0) (pv 10) (pv 7) (nomark _)) (pw_or1 (pt_not (pt_val (pe_call (ok_Lgoal_facts T O) (hr.mono (by decide)) (by rfl) O.m_Lgoal_facts O.F_Lgoal_facts.kp O.b_Lgoal_facts .nil pass0 (pa_cons (pv 10) (pa_cons (pv 4) (pa_cons (pv 5) (pa_cons (pv 6) pa_nil))))))))))) (pss_one (ps_ret pe_bl)) pss_nil)
  (pss_cons (ps_for PassesOwn.never rfl (pi_range1 (by rfl) O.z_range (pa_cons pe_int pa_nil)) (pg_name (i := 11) sc_law.nd rfl (Or.inl rfl)) (pss_one (ps_if (pt_not (pt_val (pe_call (ok_Lbent_right T O) (hr.mono (by decide)) (by rfl) O.m_Lbent_right O.F_Lbent_right.kp O.b_Lbent_right .nil pass0 (pa_cons (pv 1) (pa_cons (pe_tup (pa_cons (pv 4) (pa_cons (pv 3) (pa_cons (pv 5) pa_nil)))) (pa_cons (pv 8) pa_nil)))))) (pss_one (ps_ret pe_bl)) pss_nil)))
  (pss_cons (ps_set (i := 12) sc_law.nd rfl (Or.inl rfl) (pe_callB (r := Jv.rLenK K) Jv.cr_len (by rfl) O.z_len (by decide +kernel) (pa_cons (pv 8) pa_nil)))
  (pss_cons (ps_for PassesOwn.never rfl (pi_range2 (by rfl) O.z_range (pa_cons pe_int (pa_cons (pv 12) pa_nil))) (pg_name (i := 13) sc_law.nd rfl (Or.inl rfl)) (pss_one (ps_if (pt_cmpR (r := rNeD K) (op_neD hr.units) (pe_call (ok_Lread T O) (hr.mono (by decide)) (by rfl) O.m_Lread O.F_Lread.kp O.b_Lread .nil pass0 (pa_cons (pe_join pe_str (pe_slice (r := rSlL K) sl_list (pv 8) po_none (po_some (pv 13)))) pa_nil)) (pe_lst (pa_cons pe_str (pa_cons (pe_op op_add (pv 13) pe_int) (pa_cons pe_str pa_nil)))) (nomark _)) (pss_one (ps_ret pe_bl)) pss_nil)))
  (pss_cons (ps_set (i := 14) sc_law.nd rfl (Or.inl rfl) (pe_ix (r := rIxL K) ix_list (pe_lst (pa_cons pe_str (pa_cons (pe_ix (r := rIxL K) ix_list (pv 8) (pe_op op_sub (pv 12) pe_int) (fun _ _ => rfl)) (pa_cons pe_str pa_nil)))) (pe_call (ok_Ldraw T O) (hr.mono (by decide)) (by rfl) O.m_Ldraw O.F_Ldraw.kp O.b_Ldraw .nil pass0 (pa_cons (pv 1) (pa_cons pe_int pa_nil))) (fun _ _ => rfl)))
  (pss_cons (ps_if (PW.pt (pw_or (pt_cmpR (r := rNeD K) (op_neD hr.units) (pe_call (ok_Lread T O) (hr.mono (by decide)) (by rfl) O.m_Lread O.F_Lread.kp O.b_Lread .nil pass0 (pa_cons (pe_op op_add_str (pe_op op_add_str (pv 9) pe_str) (pv 14)) pa_nil)) (pe_lst (pa_cons pe_str (pa_cons (pe_op op_add (pv 12) pe_int) (pa_cons pe_str pa_nil)))) (nomark _)) (pw_or1 (pt_cmpR (r := rNeD K) (op_neD hr.units) (pe_call (ok_Lread T O) (hr.mono (by decide)) (by rfl) O.m_Lread O.F_Lread.kp O.b_Lread .nil pass0 (pa_cons pe_str pa_nil)) (pe_lst (pa_cons pe_str (pa_cons pe_int (pa_cons pe_str pa_nil)))) (nomark _))))) (pss_one (ps_ret pe_bl)) pss_nil)
  (pss_one (ps_if (pt_cmpR (Jv.op_neO (ok_Goalsu_equ T O) O.h_Goalsu_equ O.i_Goals_ne O.i_Goals_cm O.i_Goals_nt (hr.mono (by decide)) O.b_Goalsu_equ pass0) (pe_call (ok_Lread T O) (hr.mono (by decide)) (by rfl) O.m_Lread O.F_Lread.kp O.b_Lread .nil pass0 (pa_cons (pv 9) pa_nil)) (pv 7) (nomark _)) (pss_one (ps_ret pe_bl)) pss_nil))))))))))))))))))
  (pss_one (ps_ret pe_bl)))), ?_⟩
  walk_at "r"
  refine ⟨sc, ns, rfl, hS, few, fun h hl H0 s0 nh hh0 => ?_⟩
  walk_at "r"
  refine ⟨3, rfl, by decide, by decide, ?_⟩
  refine for_range (lo := 0) (n := 3) (fun i σ H' => ∃ y2 y3 y4 y5 y6 y7 y8 y9 y10 y11 y12 y13 y14, σ = [some (.ref sc), some (.ref h), y2, y3, y4, y5, y6, y7, y8, y9, y10, y11, y12, y13, y14] ∧ Jv.Hand H' h hl) ⟨_, _, _, _, _, _, _, _, _, _, _, _, _, rfl, hh0⟩ ?_ ?_
  case refine_2 =>
    rintro σ H1 ⟨y2, y3, y4, y5, y6, y7, y8, y9, y10, y11, y12, y13, y14, rfl, hh⟩
    walk_at "r"
    exact k _
  clear hh0 s0 nh hS few
  rintro i σ H1 hi ⟨y2, y3, y4, y5, y6, y7, y8, y9, y10, y11, y12, y13, y14, rfl, hh1⟩
  walk_at "r"
  refine ⟨h, hl, rfl, hh1, fun sA p' q' H2 hb kp2 hh2 es2 => ?_⟩
  obtain ⟨p, rfl⟩ : ∃ p : Nat, p' = p := ⟨p'.toNat, by omega⟩
  obtain ⟨q, rfl⟩ : ∃ q : Nat, q' = q := ⟨q'.toNat, by omega⟩
  have hp : 1 ≤ p ∧ p ≤ 6 := by omega
  have hq : 1 ≤ q ∧ q ≤ 6 := by omega
  have hpq : p * q ≤ 12 := by have := hb.2.2; exact_mod_cast this
  walk_at "r"
  refine ⟨h, hl, _, rfl, hh2, ⟨by decide, Jv.log_small (by decide) (by decide)⟩, fun l' H3 z0 z1 kp3 hh3 => ?_⟩
  obtain ⟨l, rfl⟩ : ∃ l : Nat, l' = l := ⟨l'.toNat, by omega⟩
  have es3 := kp3 _ _ (hh2.neTup es2) es2
  have hlb : 0 ≤ (l : Int) ∧ (l : Int) ≤ 6 := by omega
  walk_at "r"
  refine ⟨h, hl, sA, l, p, q, rfl, hh3, es3, hlb, ⟨by omega, by omega⟩, fun x d L0 H4 hx hL hR kp4 hh4 => ?_⟩
  have es4 := kp4 _ _ (hh3.neTup es3) es3
  have wd := hR.neat hlb.1 hlb.2 hp hq hpq
  obtain ⟨L, hLn⟩ : ∃ L, L = neatL l L0 := ⟨_, rfl⟩
  rw [← hLn] at wd
  walk_at "r"
  refine ⟨x, d, L0, l, p, q, rfl, hx.same Jv.hide_le, hL, hR, hlb, ⟨by omega, by omega⟩, fun wA H5 s5 dw5 => ?_⟩
  rw [← hLn] at dw5
  have hh5 := hh4.same s5
  have es5 := s5 _ _ es4
  have dw5h := dvW_hide hh5.lst dw5
  walk_at "r"
  refine ⟨h, hl, rfl, hh5, fun kA k0 k1 H6 nk ek6 kp6 hh6 => ?_⟩
  have es6 := kp6 _ _ (hh5.neTup es5) es5
  have dw6h := dw5h.same kp6.hide
  walk_at "r"
  refine gen_make fun Q1 hQ1 => r_make0 ?_
  walk_at "r"
  refine mk_good (.int (l : Int)) (dw6h.same Jv.hide_le) (.tup (Jv.sqT_at ek6) (.cons (.bl _) (.cons (.bl _) .nil))) (good_of wd) fun g H7 s7 ng ga7 => hQ1 _ _ ?_
  have e2 : wantD l L = wantT L := by rw [want_eq, wd.same]
  rw [e2] at ga7
  have hh7 := hh6.same s7
  walk_at "r"
  refine ⟨sA, kA, .ref wA, L, l, p, q, k0, k1, rfl, s7 _ _ es6, s7 _ _ ek6, (dw6h.same Jv.hide_le).same s7, wd, fun D H8 s8 nD eD => ?_⟩
  have st8 : St7 K T.C_Goals h hl sA kA g D (.ref wA) L l p q k0 k1 H8 := ⟨hh7.same s8, (s7.trans s8) _ _ es6, (s7.trans s8) _ _ ek6, dw6h.same (Jv.hide_same (s7.trans s8)), (ga7.same s8).hide (hh7.same s8).lst, (hh7.ne2 nD).1, eD⟩
  clear ga7 hh7 s7 s8 hh6 ek6 nk kp6 dw5h dw5 es5 hh5 s5 es6 dw6h es4 es3 es2 kp4 hh4 hx hL hR kp3 hh3 kp2 hh2 hb hh1 nD eD ng
  walk_at "r"
  refine Jv.r_m1 ?_
  walk_at "r"
  refine ⟨⟨_, rfl⟩, ?_⟩
  walk_at "r"
  have lin := lin_text (k0 := k0) (k1 := k1) wd
  refine ⟨_, D, textS l p q k0 k1 L, rfl, rfl, .inl (Jv.sqL_at st8.eD), lin.sum, ?_⟩
  walk_at "r"
  refine ⟨g, L, l, p, q, k0, k1, rfl, st8.g0, wd, fun H9 s9 => ?_⟩
  walk_at "r"
  rw [show decide (V.str (Txt.join nlT (textS l p q k0 k1 L)) = V.str (Txt.join (Str.ofString "\n") (textS l p q k0 k1 L))) = true from decide_eq_true rfl]
  have st9 := st8.same s9
  clear st8 s9
  walk_at "r"
  refine ⟨g, L, l, p, q, k0, k1, rfl, st9.g0, wd, fun H10 s10 => ?_⟩
  have st10 := st9.same s10
  clear st9 s10
  walk_at "r"
  refine Jv.d_isStr (Jv.Dv.str _) ?_
  rw [show (Jv.tyD (PyData.str (Txt.join nlT (textS l p q k0 k1 L))) == "str") = true from rfl]
  walk_at "r"
  refine read_good wd fun B1 H11 s11 nB ga11 => ?_
  have st11 := st10.same s11
  clear st10 s11
  walk_at "r"
  obtain ⟨dxB, _, _, _, hcb, _⟩ := id ga11
  refine ⟨_, _, _, _, true, rfl, .own T.C_Goals, .base (.ins hcb O.o_Goals O.i_Goals_ca O.i_Goals_cn O.i_Goals_ct O.i_Goals_cm), by simp [PySem.W.kitOne], ?_⟩
  walk_at "r"
  refine ne_goals ga11 st11.g0 ?_
  walk_at "r"
  refine ⟨B1, l, L, k0, k1, p, q, .ref wA, .ref kA, rfl, ga11, wd, st11.dw.same Jv.hide_le, .tup (Jv.sqT_at st11.ek) (.cons (.bl _) (.cons (.bl _) .nil)), fun H12 s12 => ?_⟩
  have st12 := st11.same s12
  clear st11 s12 ga11 hcb nB
  walk_at "r"
  refine ⟨4, rfl, by decide, by decide, ?_⟩
  refine for_range (lo := 0) (n := 4) (fun j σ H' => ∃ y11 y12 y13 y14, σ = [some (.ref sc), some (.ref h), some (.int (0 + (i : Nat))), some (.ref sA), some (.int l), some (.ref wA), some (.ref kA), some (.ref g), some (.ref D), some (.str (Txt.join nlT (textS l p q k0 k1 L))), some (.ref B1), y11, y12, y13, y14] ∧ St7 K T.C_Goals h hl sA kA g D (.ref wA) L l p q k0 k1 H') ⟨_, _, _, _, rfl, st12⟩ ?_ ?_
  · rintro j σ H13 hj ⟨y11, y12, y13, y14, rfl, st13⟩
    walk_at "r"
    intro t ht
    have n14 := Jv.same_new (u := .tup [.int l, .ref sA, .ref wA]) ht
    have et : upd H13 t (.tup [.int l, .ref sA, .ref wA]) t = some (.tup [.int l, .ref sA, .ref wA]) := upd_same
    generalize upd H13 t (.tup [.int l, .ref sA, .ref wA]) = H14 at n14 et ⊢
    have st14 := st13.same n14
    walk_at "r"
    refine ⟨h, hl, t, D, sA, .ref wA, L, l, p, q, k0, k1, rfl, st14.hh, et, st14.es, st14.dw, ⟨st14.nD, st14.eD⟩, wd, fun H15 k15 h15 => ?_⟩
    walk_at "r"
    exact ⟨_, _, _, _, rfl, st14.kp k15 h15⟩
  clear st12
  rintro σ H13 ⟨y11, y12, y13, y14, rfl, st13⟩
  have sq13 : SqL K H13 D ((textS l p q k0 k1 L).map V.str) := Jv.sqL_at st13.eD
  walk_at "r"
  rw [List.length_map, text_len]
  have hn : 4 ≤ 3 + p * q := by have := Nat.mul_le_mul hp.1 hq.1; omega
  refine ⟨1, _, rfl, ⟨by decide, by decide, by omega, by omega⟩, ?_⟩
  refine for_range (lo := 1) (n := (((3 + p * q : Nat) : Int) - 1).toNat) (fun j σ H' => ∃ y11 y13 y14, σ = [some (.ref sc), some (.ref h), some (.int (0 + (i : Nat))), some (.ref sA), some (.int l), some (.ref wA), some (.ref kA), some (.ref g), some (.ref D), some (.str (Txt.join nlT (textS l p q k0 k1 L))), some (.ref B1), y11, some (.int ((3 + p * q : Nat) : Int)), y13, y14] ∧ St7 K T.C_Goals h hl sA kA g D (.ref wA) L l p q k0 k1 H') ⟨_, _, _, rfl, st13⟩ ?_ ?_
  · rintro j σ H14 hj ⟨y11, y13, y14, rfl, st14⟩
    obtain ⟨u, hu⟩ : ∃ u : Nat, u = 1 + j := ⟨_, rfl⟩
    have hu1 : 1 ≤ u := by omega
    have hu2 : u < 3 + p * q := by omega
    rw [show (1 : Int) + (j : Nat) = (u : Int) by omega]
    walk_at "r"
    refine Jv.r_m1 ?_
    walk_at "r"
    refine ⟨⟨_, rfl⟩, ?_⟩
    refine Jv.r_tSl ?_
    walk_at "r"
    refine Jv.r_noPart ?_
    refine Jv.r_part ?_
    walk_at "r"
    refine Jv.r_partI ?_
    refine Jv.r_slL st14.eD fun t5 H15 n5 s5 e5 => ?_
    rw [Jv.cut_take (by omega), Int.toNat_natCast, ← List.map_take] at e5
    have lin5 := lin.take hu1
    refine ⟨_, t5, (textS l p q k0 k1 L).take u, rfl, rfl, .inl (Jv.sqL_at e5), lin5.sum, ?_⟩
    walk_at "r"
    refine read_bad lin5 (goal_short (k0 := k0) (k1 := k1) wd hu1 hu2 (by rw [List.length_take, text_len]; omega) fun i hi => List.getElem?_take_of_lt hi) fun D6 H16 s6 n6 er6 => ?_
    walk_at "r"
    intro D7 hD7
    have okm : PyData.strOk (Str.ofString "missing") = true := by decide +kernel
    refine ⟨_, _, (dv_bad (Jv.same_new hD7 _ _ er6)).dp, (dv_bad (n := u + 1) (f := Str.ofString "missing") upd_same).dp, shaped_bad okm, shaped_bad okm, ?_⟩
    rw [eqv_bad okm]
    walk_at "r"
    exact ⟨_, _, _, rfl, st14.same (s5.trans (s6.trans (Jv.same_new hD7)))⟩
  clear st13 sq13
  rintro σ H14 ⟨y11, y13, y14, rfl, st14⟩
  obtain ⟨z, hz⟩ : ∃ z, (textS l p q k0 k1 L)[3 + p * q - 1]? = some z := ⟨_, List.getElem?_eq_getElem (by rw [text_len]; omega)⟩
  have okz := lin.ok z (List.mem_of_getElem? hz)
  walk_at "r"
  refine Jv.r_ixL (Jv.sqL_at st14.eD) (Jv.at_i (v := .str z) (by omega) (by rw [show (((3 + p * q : Nat) : Int) - 1).toNat = 3 + p * q - 1 by omega, List.getElem?_map, hz]; rfl)) ?_
  walk_at "r"
  intro M hM
  have n15 := Jv.same_new (u := .lst [.str (Str.ofString ""), .str z, .str (Str.ofString "0 0: 0")]) hM
  have eM : upd H14 M (.lst [.str (Str.ofString ""), .str z, .str (Str.ofString "0 0: 0")]) M = some (.lst [.str (Str.ofString ""), .str z, .str (Str.ofString "0 0: 0")]) := upd_same
  generalize upd H14 M (.lst [.str (Str.ofString ""), .str z, .str (Str.ofString "0 0: 0")]) = H15 at n15 eM ⊢
  have nMh : M ≠ h := (st14.hh.ne2 hM).1
  have st15 := st14.same n15
  clear st14 n15 hM
  walk_at "r"
  refine ⟨h, hl, 3, rfl, st15.hh, ⟨by decide, by decide⟩, fun d H16 d0 d3 k16 h16 => ?_⟩
  have st16 := st15.kp k16 h16
  have eM16 := k16 _ _ nMh eM
  clear st15
  obtain ⟨m, hm, okm⟩ : ∃ m, [V.str (Str.ofString ""), .str z, .str (Str.ofString "0 0: 0")][d.toNat]? = some (.str m) ∧ (10 ∉ m.cps.toList ∧ m.length ≤ 120) := by
    rcases (show d.toNat = 0 ∨ d.toNat = 1 ∨ d.toNat = 2 by omega) with e | e | e <;> rw [e]
    · exact ⟨_, rfl, by decide +kernel, by decide +kernel⟩
    · exact ⟨z, rfl, okz⟩
    · exact ⟨_, rfl, by decide +kernel, by decide +kernel⟩
  walk_at "r"
  refine Jv.r_ixL (Jv.sqL_at eM16) (Jv.at_i d0 hm) ?_
  walk_at "r"
  have lenT := lin.len
  have lenN : nlT.length = 1 := by decide +kernel
  have big : ∀ n : Nat, n ≤ 3000 → n ≤ sizeLine := fun n h => Nat.le_trans h (by decide +kernel)
  refine ⟨_, nlT, rfl, rfl, big _ (by omega), ?_⟩
  walk_at "r"
  refine ⟨_, _, rfl, rfl, big _ (by have := okm.2; rw [app_len]; omega), ?_⟩
  have eJ : Txt.join nlT (textS l p q k0 k1 L) ++ nlT ++ m = Txt.join nlT (textS l p q k0 k1 L ++ [m]) := (joinN_snoc lin.ne).symm
  have lin2 := lin.snoc (by rw [text_len]; omega) okm
  walk_at "r"
  rw [eJ]
  refine read_bad lin2 (goal_more wd) fun D6 H17 s6 n6 er6 => ?_
  walk_at "r"
  intro D7 hD7
  have okw : PyData.strOk (Str.ofString "more") = true := by decide +kernel
  rw [show 4 + p * q = 3 + p * q + 1 by omega] at er6
  refine ⟨_, _, (dv_bad (Jv.same_new hD7 _ _ er6)).dp, (dv_bad (n := 3 + p * q + 1) (f := Str.ofString "more") upd_same).dp, shaped_bad okw, shaped_bad okw, ?_⟩
  rw [eqv_bad okw]
  have st17 := st16.same (s6.trans (Jv.same_new (u := .lst [.str (Str.ofString "bad"), .int (((3 + p * q : Nat) : Int) + 1), .str (Str.ofString "more")]) hD7))
  clear st16 eM16 er6 s6
  walk_at "r"
  rw [show V.str (Str.ofString "") = V.str (Txt.join nlT [Str.ofString ""]) by rw [joinN_one]]
  refine read_bad lin_one goal_none fun D8 H18 s8 n8 er8 => ?_
  walk_at "r"
  intro D9 hD9
  have okf : PyData.strOk (Str.ofString "form") = true := by decide +kernel
  refine ⟨_, _, (dv_bad (Jv.same_new hD9 _ _ er8)).dp, (dv_bad (n := 1) (f := Str.ofString "form") upd_same).dp, shaped_bad okf, shaped_bad okf, ?_⟩
  rw [eqv_bad okf]
  have st18 := st17.same (s8.trans (Jv.same_new (u := .lst [.str (Str.ofString "bad"), .int 1, .str (Str.ofString "form")]) hD9))
  clear st17 er8 s8
  walk_at "r"
  refine read_good wd fun B2 H19 s19 nB2 ga19 => ?_
  have st19 := st18.same s19
  walk_at "r"
  refine ne_goals ga19 st19.g0 ?_
  walk_at "r"
  exact ⟨_, _, _, _, _, _, _, _, _, _, _, _, _, rfl, st19.hh⟩
end
end K07

namespace K07
open PySem PySem.Spec PyProof.Rows L2
theorem all_mk {P : Program} {w : World} {fa : Addr} {K : PySem.W.Frag} {h : Heap} {mg : Str → Option Value} (X : K.In h) (G : h.Ns mainGlobals mg) (hfa : mg "law" = some (.ref fa))
  {C_CallError : Addr}
  {C_BadGoals : Addr}
  {C_BadText : Addr}
  {C_Goals : Addr}
  {f_BadGoalsu_initu : Addr} {od_BadGoalsu_initu an_BadGoalsu_initu : Option Addr} {sl_BadGoalsu_initu : Array (Option Value)} {oc_BadGoalsu_initu kV_BadGoalsu_initu dc_BadGoalsu_initu pm_BadGoalsu_initu cd_BadGoalsu_initu ct_BadGoalsu_initu : Value}
  {f_BadTextu_initu : Addr} {od_BadTextu_initu an_BadTextu_initu : Option Addr} {sl_BadTextu_initu : Array (Option Value)} {oc_BadTextu_initu kV_BadTextu_initu dc_BadTextu_initu pm_BadTextu_initu cd_BadTextu_initu ct_BadTextu_initu : Value}
  {f_is_whole : Addr} {od_is_whole an_is_whole : Option Addr} {sl_is_whole : Array (Option Value)} {oc_is_whole kV_is_whole dc_is_whole pm_is_whole cd_is_whole ct_is_whole : Value}
  {q_is_whole : Addr} {qc_is_whole : Value} {qd_is_whole : Option Addr} {qs_is_whole : Array (Option Value)} {qn_is_whole : Nat}
  {f_is_truth : Addr} {od_is_truth an_is_truth : Option Addr} {sl_is_truth : Array (Option Value)} {oc_is_truth kV_is_truth dc_is_truth pm_is_truth cd_is_truth ct_is_truth : Value}
  {f_is_sequence : Addr} {od_is_sequence an_is_sequence : Option Addr} {sl_is_sequence : Array (Option Value)} {oc_is_sequence kV_is_sequence dc_is_sequence pm_is_sequence cd_is_sequence ct_is_sequence : Value}
  {f_are_sides : Addr} {od_are_sides an_are_sides : Option Addr} {sl_are_sides : Array (Option Value)} {oc_are_sides kV_are_sides dc_are_sides pm_are_sides cd_are_sides ct_are_sides : Value}
  {f_couples_of : Addr} {od_couples_of an_couples_of : Option Addr} {sl_couples_of : Array (Option Value)} {oc_couples_of kV_couples_of dc_couples_of pm_couples_of cd_couples_of ct_couples_of : Value}
  {f_sides_of_lines : Addr} {od_sides_of_lines an_sides_of_lines : Option Addr} {sl_sides_of_lines : Array (Option Value)} {oc_sides_of_lines kV_sides_of_lines dc_sides_of_lines pm_sides_of_lines cd_sides_of_lines ct_sides_of_lines : Value}
  {f_are_ends : Addr} {od_are_ends an_are_ends : Option Addr} {sl_are_ends : Array (Option Value)} {oc_are_ends kV_are_ends dc_are_ends pm_are_ends cd_are_ends ct_are_ends : Value}
  {f_is_knowing : Addr} {od_is_knowing an_is_knowing : Option Addr} {sl_is_knowing : Array (Option Value)} {oc_is_knowing kV_is_knowing dc_is_knowing pm_is_knowing cd_is_knowing ct_is_knowing : Value}
  {f_Goalsu_initu : Addr} {od_Goalsu_initu an_Goalsu_initu : Option Addr} {sl_Goalsu_initu : Array (Option Value)} {oc_Goalsu_initu kV_Goalsu_initu dc_Goalsu_initu pm_Goalsu_initu cd_Goalsu_initu ct_Goalsu_initu : Value}
  {q_Goalsu_initu : Addr} {qc_Goalsu_initu : Value} {qd_Goalsu_initu : Option Addr} {qs_Goalsu_initu : Array (Option Value)} {qn_Goalsu_initu : Nat}
  {w0_Goalsu_initu : Addr} {wd0_Goalsu_initu : Option Addr} {wn0_Goalsu_initu : Nat} {ws0_Goalsu_initu : Array (Option Value)}
  {f_Goalsu_equ : Addr} {od_Goalsu_equ an_Goalsu_equ : Option Addr} {sl_Goalsu_equ : Array (Option Value)} {oc_Goalsu_equ kV_Goalsu_equ dc_Goalsu_equ pm_Goalsu_equ cd_Goalsu_equ ct_Goalsu_equ : Value}
  {f_yes_or_no : Addr} {od_yes_or_no an_yes_or_no : Option Addr} {sl_yes_or_no : Array (Option Value)} {oc_yes_or_no kV_yes_or_no dc_yes_or_no pm_yes_or_no cd_yes_or_no ct_yes_or_no : Value}
  {f_goals_text : Addr} {od_goals_text an_goals_text : Option Addr} {sl_goals_text : Array (Option Value)} {oc_goals_text kV_goals_text dc_goals_text pm_goals_text cd_goals_text ct_goals_text : Value}
  {f_number_from : Addr} {od_number_from an_number_from : Option Addr} {sl_number_from : Array (Option Value)} {oc_number_from kV_number_from dc_number_from pm_number_from cd_number_from ct_number_from : Value}
  {f_end_from : Addr} {od_end_from an_end_from : Option Addr} {sl_end_from : Array (Option Value)} {oc_end_from kV_end_from dc_end_from pm_end_from cd_end_from ct_end_from : Value}
  {f_numbers_from : Addr} {od_numbers_from an_numbers_from : Option Addr} {sl_numbers_from : Array (Option Value)} {oc_numbers_from kV_numbers_from dc_numbers_from pm_numbers_from cd_numbers_from ct_numbers_from : Value}
  {f_words_behind : Addr} {od_words_behind an_words_behind : Option Addr} {sl_words_behind : Array (Option Value)} {oc_words_behind kV_words_behind dc_words_behind pm_words_behind cd_words_behind ct_words_behind : Value}
  {f_numbers_behind : Addr} {od_numbers_behind an_numbers_behind : Option Addr} {sl_numbers_behind : Array (Option Value)} {oc_numbers_behind kV_numbers_behind dc_numbers_behind pm_numbers_behind cd_numbers_behind ct_numbers_behind : Value}
  {f_read_ladder : Addr} {od_read_ladder an_read_ladder : Option Addr} {sl_read_ladder : Array (Option Value)} {oc_read_ladder kV_read_ladder dc_read_ladder pm_read_ladder cd_read_ladder ct_read_ladder : Value}
  {f_read_sides : Addr} {od_read_sides an_read_sides : Option Addr} {sl_read_sides : Array (Option Value)} {oc_read_sides kV_read_sides dc_read_sides pm_read_sides cd_read_sides ct_read_sides : Value}
  {f_read_truths : Addr} {od_read_truths an_read_truths : Option Addr} {sl_read_truths : Array (Option Value)} {oc_read_truths kV_read_truths dc_read_truths pm_read_truths cd_read_truths ct_read_truths : Value}
  {f_read_ends : Addr} {od_read_ends an_read_ends : Option Addr} {sl_read_ends : Array (Option Value)} {oc_read_ends kV_read_ends dc_read_ends pm_read_ends cd_read_ends ct_read_ends : Value}
  {f_read_goals : Addr} {od_read_goals an_read_goals : Option Addr} {sl_read_goals : Array (Option Value)} {oc_read_goals kV_read_goals dc_read_goals pm_read_goals cd_read_goals ct_read_goals : Value}
  {f_Lmix : Addr} {od_Lmix an_Lmix : Option Addr} {sl_Lmix : Array (Option Value)} {oc_Lmix kV_Lmix dc_Lmix pm_Lmix cd_Lmix ct_Lmix : Value}
  {f_Lhand : Addr} {od_Lhand an_Lhand : Option Addr} {sl_Lhand : Array (Option Value)} {oc_Lhand kV_Lhand dc_Lhand pm_Lhand cd_Lhand ct_Lhand : Value}
  {f_Ldraw : Addr} {od_Ldraw an_Ldraw : Option Addr} {sl_Ldraw : Array (Option Value)} {oc_Ldraw kV_Ldraw dc_Ldraw pm_Ldraw cd_Ldraw ct_Ldraw : Value}
  {f_Lwhole : Addr} {od_Lwhole an_Lwhole : Option Addr} {sl_Lwhole : Array (Option Value)} {oc_Lwhole kV_Lwhole dc_Lwhole pm_Lwhole cd_Lwhole ct_Lwhole : Value}
  {f_Lcouples : Addr} {od_Lcouples an_Lcouples : Option Addr} {sl_Lcouples : Array (Option Value)} {oc_Lcouples kV_Lcouples dc_Lcouples pm_Lcouples cd_Lcouples ct_Lcouples : Value}
  {f_Lis : Addr} {od_Lis an_Lis : Option Addr} {sl_Lis : Array (Option Value)} {oc_Lis kV_Lis dc_Lis pm_Lis cd_Lis ct_Lis : Value}
  {f_Lwide_sides : Addr} {od_Lwide_sides an_Lwide_sides : Option Addr} {sl_Lwide_sides : Array (Option Value)} {oc_Lwide_sides kV_Lwide_sides dc_Lwide_sides pm_Lwide_sides cd_Lwide_sides ct_Lwide_sides : Value}
  {f_Lends : Addr} {od_Lends an_Lends : Option Addr} {sl_Lends : Array (Option Value)} {oc_Lends kV_Lends dc_Lends pm_Lends cd_Lends ct_Lends : Value}
  {f_Lneat : Addr} {od_Lneat an_Lneat : Option Addr} {sl_Lneat : Array (Option Value)} {oc_Lneat kV_Lneat dc_Lneat pm_Lneat cd_Lneat ct_Lneat : Value}
  {f_Lraw_wanted : Addr} {od_Lraw_wanted an_Lraw_wanted : Option Addr} {sl_Lraw_wanted : Array (Option Value)} {oc_Lraw_wanted kV_Lraw_wanted dc_Lraw_wanted pm_Lraw_wanted cd_Lraw_wanted ct_Lraw_wanted : Value}
  {f_Lneat_wanted : Addr} {od_Lneat_wanted an_Lneat_wanted : Option Addr} {sl_Lneat_wanted : Array (Option Value)} {oc_Lneat_wanted kV_Lneat_wanted dc_Lneat_wanted pm_Lneat_wanted cd_Lneat_wanted ct_Lneat_wanted : Value}
  {f_Ltruths : Addr} {od_Ltruths an_Ltruths : Option Addr} {sl_Ltruths : Array (Option Value)} {oc_Ltruths kV_Ltruths dc_Ltruths pm_Ltruths cd_Ltruths ct_Ltruths : Value}
  {f_Lgoal_facts : Addr} {od_Lgoal_facts an_Lgoal_facts : Option Addr} {sl_Lgoal_facts : Array (Option Value)} {oc_Lgoal_facts kV_Lgoal_facts dc_Lgoal_facts pm_Lgoal_facts cd_Lgoal_facts ct_Lgoal_facts : Value}
  {f_Lread : Addr} {od_Lread an_Lread : Option Addr} {sl_Lread : Array (Option Value)} {oc_Lread kV_Lread dc_Lread pm_Lread cd_Lread ct_Lread : Value}
  {f_Lyes : Addr} {od_Lyes an_Lyes : Option Addr} {sl_Lyes : Array (Option Value)} {oc_Lyes kV_Lyes dc_Lyes pm_Lyes cd_Lyes ct_Lyes : Value}
  {f_Ltext : Addr} {od_Ltext an_Ltext : Option Addr} {sl_Ltext : Array (Option Value)} {oc_Ltext kV_Ltext dc_Ltext pm_Ltext cd_Ltext ct_Ltext : Value}
  {f_Lbent_top : Addr} {od_Lbent_top an_Lbent_top : Option Addr} {sl_Lbent_top : Array (Option Value)} {oc_Lbent_top kV_Lbent_top dc_Lbent_top pm_Lbent_top cd_Lbent_top ct_Lbent_top : Value}
  {f_Lbent_couple : Addr} {od_Lbent_couple an_Lbent_couple : Option Addr} {sl_Lbent_couple : Array (Option Value)} {oc_Lbent_couple kV_Lbent_couple dc_Lbent_couple pm_Lbent_couple cd_Lbent_couple ct_Lbent_couple : Value}
  {f_Lbent_right : Addr} {od_Lbent_right an_Lbent_right : Option Addr} {sl_Lbent_right : Array (Option Value)} {oc_Lbent_right kV_Lbent_right dc_Lbent_right pm_Lbent_right cd_Lbent_right ct_Lbent_right : Value}
  {f_law : Addr} {od_law an_law : Option Addr} {sl_law : Array (Option Value)} {oc_law kV_law dc_law pm_law cd_law ct_law : Value}
  {nm_BadGoals qn_BadGoals : Str} {N_BadGoals : Addr} {bs_BadGoals : List Value} {sn_BadGoals : List Str} {sb_BadGoals : List Value} {ab_BadGoals : Bool} {co_BadGoals : Option Bool} {dd_BadGoals : Option Addr} {m0_BadGoals m1_BadGoals m2_BadGoals m3_BadGoals m5_BadGoals : Option Value}
  {nm_BadText qn_BadText : Str} {N_BadText : Addr} {bs_BadText : List Value} {sn_BadText : List Str} {sb_BadText : List Value} {ab_BadText : Bool} {co_BadText : Option Bool} {dd_BadText : Option Addr} {m0_BadText m1_BadText m2_BadText m3_BadText m5_BadText : Option Value}
  {t_EAST : Tok}
  {t_WEST : Tok}
  {t_LADDER_MOST : Tok}
  {t_KINDS_MOST : Tok}
  {t_COUPLES_MOST : Tok}
  {t_FIGURES : Tok}
  {t_FIGURES_MOST : Tok}
  (a_CallError : PySem.W.nsIn K mainGlobals "CallError" = some (some (.ref C_CallError)))
  (a_BadGoals : PySem.W.nsIn K mainGlobals "BadGoals" = some (some (.ref C_BadGoals)))
  (a_BadText : PySem.W.nsIn K mainGlobals "BadText" = some (some (.ref C_BadText)))
  (a_Goals : PySem.W.nsIn K mainGlobals "Goals" = some (some (.ref C_Goals)))
  (a_BadGoalsu_initu : PySem.W.findIn K (.ref C_BadGoals) "__init__" = some (some (.ref f_BadGoalsu_initu)))
  (l_BadGoalsu_initu : K.lookup f_BadGoalsu_initu = some ⟨oc_BadGoalsu_initu, od_BadGoalsu_initu, .func (PySem.W.fnOf "__init__" "BadGoals.__init__" (defArgs s_BadGoalsu_initu) (defBody s_BadGoalsu_initu) (defScope s_BadGoalsu_initu) .none kV_BadGoalsu_initu dc_BadGoalsu_initu pm_BadGoalsu_initu an_BadGoalsu_initu cd_BadGoalsu_initu ct_BadGoalsu_initu), sl_BadGoalsu_initu⟩)
  (c_BadGoalsu_initu : PySem.W.codeIn K cd_BadGoalsu_initu "BadGoals.__init__" = true)
  (k_BadGoalsu_initu : PySem.W.keepIn K (.ref f_BadGoalsu_initu) = true)
  (a_BadTextu_initu : PySem.W.findIn K (.ref C_BadText) "__init__" = some (some (.ref f_BadTextu_initu)))
  (l_BadTextu_initu : K.lookup f_BadTextu_initu = some ⟨oc_BadTextu_initu, od_BadTextu_initu, .func (PySem.W.fnOf "__init__" "BadText.__init__" (defArgs s_BadTextu_initu) (defBody s_BadTextu_initu) (defScope s_BadTextu_initu) .none kV_BadTextu_initu dc_BadTextu_initu pm_BadTextu_initu an_BadTextu_initu cd_BadTextu_initu ct_BadTextu_initu), sl_BadTextu_initu⟩)
  (c_BadTextu_initu : PySem.W.codeIn K cd_BadTextu_initu "BadText.__init__" = true)
  (k_BadTextu_initu : PySem.W.keepIn K (.ref f_BadTextu_initu) = true)
  (a_is_whole : PySem.W.nsIn K mainGlobals "is_whole" = some (some (.ref f_is_whole)))
  (l_is_whole : K.lookup f_is_whole = some ⟨oc_is_whole, od_is_whole, .func (PySem.W.fnOf "is_whole" "is_whole" (defArgs s_is_whole) (defBody s_is_whole) (defScope s_is_whole) (.ref q_is_whole) kV_is_whole dc_is_whole pm_is_whole an_is_whole cd_is_whole ct_is_whole), sl_is_whole⟩)
  (c_is_whole : PySem.W.codeIn K cd_is_whole "is_whole" = true)
  (k_is_whole : PySem.W.keepIn K (.ref f_is_whole) = true)
  (t_is_whole : K.lookup q_is_whole = some ⟨qc_is_whole, qd_is_whole, .seq #[Value.none, Value.none] qn_is_whole, qs_is_whole⟩)
  (a_is_truth : PySem.W.nsIn K mainGlobals "is_truth" = some (some (.ref f_is_truth)))
  (l_is_truth : K.lookup f_is_truth = some ⟨oc_is_truth, od_is_truth, .func (PySem.W.fnOf "is_truth" "is_truth" (defArgs s_is_truth) (defBody s_is_truth) (defScope s_is_truth) .none kV_is_truth dc_is_truth pm_is_truth an_is_truth cd_is_truth ct_is_truth), sl_is_truth⟩)
  (c_is_truth : PySem.W.codeIn K cd_is_truth "is_truth" = true)
  (k_is_truth : PySem.W.keepIn K (.ref f_is_truth) = true)
  (a_is_sequence : PySem.W.nsIn K mainGlobals "is_sequence" = some (some (.ref f_is_sequence)))
  (l_is_sequence : K.lookup f_is_sequence = some ⟨oc_is_sequence, od_is_sequence, .func (PySem.W.fnOf "is_sequence" "is_sequence" (defArgs s_is_sequence) (defBody s_is_sequence) (defScope s_is_sequence) .none kV_is_sequence dc_is_sequence pm_is_sequence an_is_sequence cd_is_sequence ct_is_sequence), sl_is_sequence⟩)
  (c_is_sequence : PySem.W.codeIn K cd_is_sequence "is_sequence" = true)
  (k_is_sequence : PySem.W.keepIn K (.ref f_is_sequence) = true)
  (a_are_sides : PySem.W.nsIn K mainGlobals "are_sides" = some (some (.ref f_are_sides)))
  (l_are_sides : K.lookup f_are_sides = some ⟨oc_are_sides, od_are_sides, .func (PySem.W.fnOf "are_sides" "are_sides" (defArgs s_are_sides) (defBody s_are_sides) (defScope s_are_sides) .none kV_are_sides dc_are_sides pm_are_sides an_are_sides cd_are_sides ct_are_sides), sl_are_sides⟩)
  (c_are_sides : PySem.W.codeIn K cd_are_sides "are_sides" = true)
  (k_are_sides : PySem.W.keepIn K (.ref f_are_sides) = true)
  (a_couples_of : PySem.W.nsIn K mainGlobals "couples_of" = some (some (.ref f_couples_of)))
  (l_couples_of : K.lookup f_couples_of = some ⟨oc_couples_of, od_couples_of, .func (PySem.W.fnOf "couples_of" "couples_of" (defArgs s_couples_of) (defBody s_couples_of) (defScope s_couples_of) .none kV_couples_of dc_couples_of pm_couples_of an_couples_of cd_couples_of ct_couples_of), sl_couples_of⟩)
  (c_couples_of : PySem.W.codeIn K cd_couples_of "couples_of" = true)
  (k_couples_of : PySem.W.keepIn K (.ref f_couples_of) = true)
  (a_sides_of_lines : PySem.W.nsIn K mainGlobals "sides_of_lines" = some (some (.ref f_sides_of_lines)))
  (l_sides_of_lines : K.lookup f_sides_of_lines = some ⟨oc_sides_of_lines, od_sides_of_lines, .func (PySem.W.fnOf "sides_of_lines" "sides_of_lines" (defArgs s_sides_of_lines) (defBody s_sides_of_lines) (defScope s_sides_of_lines) .none kV_sides_of_lines dc_sides_of_lines pm_sides_of_lines an_sides_of_lines cd_sides_of_lines ct_sides_of_lines), sl_sides_of_lines⟩)
  (c_sides_of_lines : PySem.W.codeIn K cd_sides_of_lines "sides_of_lines" = true)
  (k_sides_of_lines : PySem.W.keepIn K (.ref f_sides_of_lines) = true)
  (a_are_ends : PySem.W.nsIn K mainGlobals "are_ends" = some (some (.ref f_are_ends)))
  (l_are_ends : K.lookup f_are_ends = some ⟨oc_are_ends, od_are_ends, .func (PySem.W.fnOf "are_ends" "are_ends" (defArgs s_are_ends) (defBody s_are_ends) (defScope s_are_ends) .none kV_are_ends dc_are_ends pm_are_ends an_are_ends cd_are_ends ct_are_ends), sl_are_ends⟩)
  (c_are_ends : PySem.W.codeIn K cd_are_ends "are_ends" = true)
  (k_are_ends : PySem.W.keepIn K (.ref f_are_ends) = true)
  (a_is_knowing : PySem.W.nsIn K mainGlobals "is_knowing" = some (some (.ref f_is_knowing)))
  (l_is_knowing : K.lookup f_is_knowing = some ⟨oc_is_knowing, od_is_knowing, .func (PySem.W.fnOf "is_knowing" "is_knowing" (defArgs s_is_knowing) (defBody s_is_knowing) (defScope s_is_knowing) .none kV_is_knowing dc_is_knowing pm_is_knowing an_is_knowing cd_is_knowing ct_is_knowing), sl_is_knowing⟩)
  (c_is_knowing : PySem.W.codeIn K cd_is_knowing "is_knowing" = true)
  (k_is_knowing : PySem.W.keepIn K (.ref f_is_knowing) = true)
  (a_Goalsu_initu : PySem.W.findIn K (.ref C_Goals) "__init__" = some (some (.ref f_Goalsu_initu)))
  (l_Goalsu_initu : K.lookup f_Goalsu_initu = some ⟨oc_Goalsu_initu, od_Goalsu_initu, .func (PySem.W.fnOf "__init__" "Goals.__init__" (defArgs s_Goalsu_initu) (defBody s_Goalsu_initu) (defScope s_Goalsu_initu) (.ref q_Goalsu_initu) kV_Goalsu_initu dc_Goalsu_initu pm_Goalsu_initu an_Goalsu_initu cd_Goalsu_initu ct_Goalsu_initu), sl_Goalsu_initu⟩)
  (c_Goalsu_initu : PySem.W.codeIn K cd_Goalsu_initu "Goals.__init__" = true)
  (k_Goalsu_initu : PySem.W.keepIn K (.ref f_Goalsu_initu) = true)
  (t_Goalsu_initu : K.lookup q_Goalsu_initu = some ⟨qc_Goalsu_initu, qd_Goalsu_initu, .seq #[Value.ref w0_Goalsu_initu] qn_Goalsu_initu, qs_Goalsu_initu⟩)
  (w0_Goalsu_initu_ : K.lookup w0_Goalsu_initu = some ⟨.type "tuple", wd0_Goalsu_initu, .seq #[Value.bool false, Value.bool false] wn0_Goalsu_initu, ws0_Goalsu_initu⟩)
  (a_Goalsu_equ : PySem.W.findIn K (.ref C_Goals) "__eq__" = some (some (.ref f_Goalsu_equ)))
  (l_Goalsu_equ : K.lookup f_Goalsu_equ = some ⟨oc_Goalsu_equ, od_Goalsu_equ, .func (PySem.W.fnOf "__eq__" "Goals.__eq__" (defArgs s_Goalsu_equ) (defBody s_Goalsu_equ) (defScope s_Goalsu_equ) .none kV_Goalsu_equ dc_Goalsu_equ pm_Goalsu_equ an_Goalsu_equ cd_Goalsu_equ ct_Goalsu_equ), sl_Goalsu_equ⟩)
  (c_Goalsu_equ : PySem.W.codeIn K cd_Goalsu_equ "Goals.__eq__" = true)
  (k_Goalsu_equ : PySem.W.keepIn K (.ref f_Goalsu_equ) = true)
  (a_yes_or_no : PySem.W.nsIn K mainGlobals "yes_or_no" = some (some (.ref f_yes_or_no)))
  (l_yes_or_no : K.lookup f_yes_or_no = some ⟨oc_yes_or_no, od_yes_or_no, .func (PySem.W.fnOf "yes_or_no" "yes_or_no" (defArgs s_yes_or_no) (defBody s_yes_or_no) (defScope s_yes_or_no) .none kV_yes_or_no dc_yes_or_no pm_yes_or_no an_yes_or_no cd_yes_or_no ct_yes_or_no), sl_yes_or_no⟩)
  (c_yes_or_no : PySem.W.codeIn K cd_yes_or_no "yes_or_no" = true)
  (k_yes_or_no : PySem.W.keepIn K (.ref f_yes_or_no) = true)
  (a_goals_text : PySem.W.nsIn K mainGlobals "goals_text" = some (some (.ref f_goals_text)))
  (l_goals_text : K.lookup f_goals_text = some ⟨oc_goals_text, od_goals_text, .func (PySem.W.fnOf "goals_text" "goals_text" (defArgs s_goals_text) (defBody s_goals_text) (defScope s_goals_text) .none kV_goals_text dc_goals_text pm_goals_text an_goals_text cd_goals_text ct_goals_text), sl_goals_text⟩)
  (c_goals_text : PySem.W.codeIn K cd_goals_text "goals_text" = true)
  (k_goals_text : PySem.W.keepIn K (.ref f_goals_text) = true)
  (a_number_from : PySem.W.nsIn K mainGlobals "number_from" = some (some (.ref f_number_from)))
  (l_number_from : K.lookup f_number_from = some ⟨oc_number_from, od_number_from, .func (PySem.W.fnOf "number_from" "number_from" (defArgs s_number_from) (defBody s_number_from) (defScope s_number_from) .none kV_number_from dc_number_from pm_number_from an_number_from cd_number_from ct_number_from), sl_number_from⟩)
  (c_number_from : PySem.W.codeIn K cd_number_from "number_from" = true)
  (k_number_from : PySem.W.keepIn K (.ref f_number_from) = true)
  (a_end_from : PySem.W.nsIn K mainGlobals "end_from" = some (some (.ref f_end_from)))
  (l_end_from : K.lookup f_end_from = some ⟨oc_end_from, od_end_from, .func (PySem.W.fnOf "end_from" "end_from" (defArgs s_end_from) (defBody s_end_from) (defScope s_end_from) .none kV_end_from dc_end_from pm_end_from an_end_from cd_end_from ct_end_from), sl_end_from⟩)
  (c_end_from : PySem.W.codeIn K cd_end_from "end_from" = true)
  (k_end_from : PySem.W.keepIn K (.ref f_end_from) = true)
  (a_numbers_from : PySem.W.nsIn K mainGlobals "numbers_from" = some (some (.ref f_numbers_from)))
  (l_numbers_from : K.lookup f_numbers_from = some ⟨oc_numbers_from, od_numbers_from, .func (PySem.W.fnOf "numbers_from" "numbers_from" (defArgs s_numbers_from) (defBody s_numbers_from) (defScope s_numbers_from) .none kV_numbers_from dc_numbers_from pm_numbers_from an_numbers_from cd_numbers_from ct_numbers_from), sl_numbers_from⟩)
  (c_numbers_from : PySem.W.codeIn K cd_numbers_from "numbers_from" = true)
  (k_numbers_from : PySem.W.keepIn K (.ref f_numbers_from) = true)
  (a_words_behind : PySem.W.nsIn K mainGlobals "words_behind" = some (some (.ref f_words_behind)))
  (l_words_behind : K.lookup f_words_behind = some ⟨oc_words_behind, od_words_behind, .func (PySem.W.fnOf "words_behind" "words_behind" (defArgs s_words_behind) (defBody s_words_behind) (defScope s_words_behind) .none kV_words_behind dc_words_behind pm_words_behind an_words_behind cd_words_behind ct_words_behind), sl_words_behind⟩)
  (c_words_behind : PySem.W.codeIn K cd_words_behind "words_behind" = true)
  (k_words_behind : PySem.W.keepIn K (.ref f_words_behind) = true)
  (a_numbers_behind : PySem.W.nsIn K mainGlobals "numbers_behind" = some (some (.ref f_numbers_behind)))
  (l_numbers_behind : K.lookup f_numbers_behind = some ⟨oc_numbers_behind, od_numbers_behind, .func (PySem.W.fnOf "numbers_behind" "numbers_behind" (defArgs s_numbers_behind) (defBody s_numbers_behind) (defScope s_numbers_behind) .none kV_numbers_behind dc_numbers_behind pm_numbers_behind an_numbers_behind cd_numbers_behind ct_numbers_behind), sl_numbers_behind⟩)
  (c_numbers_behind : PySem.W.codeIn K cd_numbers_behind "numbers_behind" = true)
  (k_numbers_behind : PySem.W.keepIn K (.ref f_numbers_behind) = true)
  (a_read_ladder : PySem.W.nsIn K mainGlobals "read_ladder" = some (some (.ref f_read_ladder)))
  (l_read_ladder : K.lookup f_read_ladder = some ⟨oc_read_ladder, od_read_ladder, .func (PySem.W.fnOf "read_ladder" "read_ladder" (defArgs s_read_ladder) (defBody s_read_ladder) (defScope s_read_ladder) .none kV_read_ladder dc_read_ladder pm_read_ladder an_read_ladder cd_read_ladder ct_read_ladder), sl_read_ladder⟩)
  (c_read_ladder : PySem.W.codeIn K cd_read_ladder "read_ladder" = true)
  (k_read_ladder : PySem.W.keepIn K (.ref f_read_ladder) = true)
  (a_read_sides : PySem.W.nsIn K mainGlobals "read_sides" = some (some (.ref f_read_sides)))
  (l_read_sides : K.lookup f_read_sides = some ⟨oc_read_sides, od_read_sides, .func (PySem.W.fnOf "read_sides" "read_sides" (defArgs s_read_sides) (defBody s_read_sides) (defScope s_read_sides) .none kV_read_sides dc_read_sides pm_read_sides an_read_sides cd_read_sides ct_read_sides), sl_read_sides⟩)
  (c_read_sides : PySem.W.codeIn K cd_read_sides "read_sides" = true)
  (k_read_sides : PySem.W.keepIn K (.ref f_read_sides) = true)
  (a_read_truths : PySem.W.nsIn K mainGlobals "read_truths" = some (some (.ref f_read_truths)))
  (l_read_truths : K.lookup f_read_truths = some ⟨oc_read_truths, od_read_truths, .func (PySem.W.fnOf "read_truths" "read_truths" (defArgs s_read_truths) (defBody s_read_truths) (defScope s_read_truths) .none kV_read_truths dc_read_truths pm_read_truths an_read_truths cd_read_truths ct_read_truths), sl_read_truths⟩)
  (c_read_truths : PySem.W.codeIn K cd_read_truths "read_truths" = true)
  (k_read_truths : PySem.W.keepIn K (.ref f_read_truths) = true)
  (a_read_ends : PySem.W.nsIn K mainGlobals "read_ends" = some (some (.ref f_read_ends)))
  (l_read_ends : K.lookup f_read_ends = some ⟨oc_read_ends, od_read_ends, .func (PySem.W.fnOf "read_ends" "read_ends" (defArgs s_read_ends) (defBody s_read_ends) (defScope s_read_ends) .none kV_read_ends dc_read_ends pm_read_ends an_read_ends cd_read_ends ct_read_ends), sl_read_ends⟩)
  (c_read_ends : PySem.W.codeIn K cd_read_ends "read_ends" = true)
  (k_read_ends : PySem.W.keepIn K (.ref f_read_ends) = true)
  (a_read_goals : PySem.W.nsIn K mainGlobals "read_goals" = some (some (.ref f_read_goals)))
  (l_read_goals : K.lookup f_read_goals = some ⟨oc_read_goals, od_read_goals, .func (PySem.W.fnOf "read_goals" "read_goals" (defArgs s_read_goals) (defBody s_read_goals) (defScope s_read_goals) .none kV_read_goals dc_read_goals pm_read_goals an_read_goals cd_read_goals ct_read_goals), sl_read_goals⟩)
  (c_read_goals : PySem.W.codeIn K cd_read_goals "read_goals" = true)
  (k_read_goals : PySem.W.keepIn K (.ref f_read_goals) = true)
  (a_Lmix : PySem.W.nsIn K mainGlobals "_law_mix" = some (some (.ref f_Lmix)))
  (l_Lmix : K.lookup f_Lmix = some ⟨oc_Lmix, od_Lmix, .func (PySem.W.fnOf "_law_mix" "_law_mix" (defArgs s_Lmix) (defBody s_Lmix) (defScope s_Lmix) .none kV_Lmix dc_Lmix pm_Lmix an_Lmix cd_Lmix ct_Lmix), sl_Lmix⟩)
  (c_Lmix : PySem.W.codeIn K cd_Lmix "_law_mix" = true)
  (k_Lmix : PySem.W.keepIn K (.ref f_Lmix) = true)
  (a_Lhand : PySem.W.nsIn K mainGlobals "_law_hand" = some (some (.ref f_Lhand)))
  (l_Lhand : K.lookup f_Lhand = some ⟨oc_Lhand, od_Lhand, .func (PySem.W.fnOf "_law_hand" "_law_hand" (defArgs s_Lhand) (defBody s_Lhand) (defScope s_Lhand) .none kV_Lhand dc_Lhand pm_Lhand an_Lhand cd_Lhand ct_Lhand), sl_Lhand⟩)
  (c_Lhand : PySem.W.codeIn K cd_Lhand "_law_hand" = true)
  (k_Lhand : PySem.W.keepIn K (.ref f_Lhand) = true)
  (a_Ldraw : PySem.W.nsIn K mainGlobals "_law_draw" = some (some (.ref f_Ldraw)))
  (l_Ldraw : K.lookup f_Ldraw = some ⟨oc_Ldraw, od_Ldraw, .func (PySem.W.fnOf "_law_draw" "_law_draw" (defArgs s_Ldraw) (defBody s_Ldraw) (defScope s_Ldraw) .none kV_Ldraw dc_Ldraw pm_Ldraw an_Ldraw cd_Ldraw ct_Ldraw), sl_Ldraw⟩)
  (c_Ldraw : PySem.W.codeIn K cd_Ldraw "_law_draw" = true)
  (k_Ldraw : PySem.W.keepIn K (.ref f_Ldraw) = true)
  (a_Lwhole : PySem.W.nsIn K mainGlobals "_law_whole" = some (some (.ref f_Lwhole)))
  (l_Lwhole : K.lookup f_Lwhole = some ⟨oc_Lwhole, od_Lwhole, .func (PySem.W.fnOf "_law_whole" "_law_whole" (defArgs s_Lwhole) (defBody s_Lwhole) (defScope s_Lwhole) .none kV_Lwhole dc_Lwhole pm_Lwhole an_Lwhole cd_Lwhole ct_Lwhole), sl_Lwhole⟩)
  (c_Lwhole : PySem.W.codeIn K cd_Lwhole "_law_whole" = true)
  (k_Lwhole : PySem.W.keepIn K (.ref f_Lwhole) = true)
  (a_Lcouples : PySem.W.nsIn K mainGlobals "_law_couples" = some (some (.ref f_Lcouples)))
  (l_Lcouples : K.lookup f_Lcouples = some ⟨oc_Lcouples, od_Lcouples, .func (PySem.W.fnOf "_law_couples" "_law_couples" (defArgs s_Lcouples) (defBody s_Lcouples) (defScope s_Lcouples) .none kV_Lcouples dc_Lcouples pm_Lcouples an_Lcouples cd_Lcouples ct_Lcouples), sl_Lcouples⟩)
  (c_Lcouples : PySem.W.codeIn K cd_Lcouples "_law_couples" = true)
  (k_Lcouples : PySem.W.keepIn K (.ref f_Lcouples) = true)
  (a_Lis : PySem.W.nsIn K mainGlobals "_law_is" = some (some (.ref f_Lis)))
  (l_Lis : K.lookup f_Lis = some ⟨oc_Lis, od_Lis, .func (PySem.W.fnOf "_law_is" "_law_is" (defArgs s_Lis) (defBody s_Lis) (defScope s_Lis) .none kV_Lis dc_Lis pm_Lis an_Lis cd_Lis ct_Lis), sl_Lis⟩)
  (c_Lis : PySem.W.codeIn K cd_Lis "_law_is" = true)
  (k_Lis : PySem.W.keepIn K (.ref f_Lis) = true)
  (a_Lwide_sides : PySem.W.nsIn K mainGlobals "_law_wide_sides" = some (some (.ref f_Lwide_sides)))
  (l_Lwide_sides : K.lookup f_Lwide_sides = some ⟨oc_Lwide_sides, od_Lwide_sides, .func (PySem.W.fnOf "_law_wide_sides" "_law_wide_sides" (defArgs s_Lwide_sides) (defBody s_Lwide_sides) (defScope s_Lwide_sides) .none kV_Lwide_sides dc_Lwide_sides pm_Lwide_sides an_Lwide_sides cd_Lwide_sides ct_Lwide_sides), sl_Lwide_sides⟩)
  (c_Lwide_sides : PySem.W.codeIn K cd_Lwide_sides "_law_wide_sides" = true)
  (k_Lwide_sides : PySem.W.keepIn K (.ref f_Lwide_sides) = true)
  (a_Lends : PySem.W.nsIn K mainGlobals "_law_ends" = some (some (.ref f_Lends)))
  (l_Lends : K.lookup f_Lends = some ⟨oc_Lends, od_Lends, .func (PySem.W.fnOf "_law_ends" "_law_ends" (defArgs s_Lends) (defBody s_Lends) (defScope s_Lends) .none kV_Lends dc_Lends pm_Lends an_Lends cd_Lends ct_Lends), sl_Lends⟩)
  (c_Lends : PySem.W.codeIn K cd_Lends "_law_ends" = true)
  (k_Lends : PySem.W.keepIn K (.ref f_Lends) = true)
  (a_Lneat : PySem.W.nsIn K mainGlobals "_law_neat" = some (some (.ref f_Lneat)))
  (l_Lneat : K.lookup f_Lneat = some ⟨oc_Lneat, od_Lneat, .func (PySem.W.fnOf "_law_neat" "_law_neat" (defArgs s_Lneat) (defBody s_Lneat) (defScope s_Lneat) .none kV_Lneat dc_Lneat pm_Lneat an_Lneat cd_Lneat ct_Lneat), sl_Lneat⟩)
  (c_Lneat : PySem.W.codeIn K cd_Lneat "_law_neat" = true)
  (k_Lneat : PySem.W.keepIn K (.ref f_Lneat) = true)
  (a_Lraw_wanted : PySem.W.nsIn K mainGlobals "_law_raw_wanted" = some (some (.ref f_Lraw_wanted)))
  (l_Lraw_wanted : K.lookup f_Lraw_wanted = some ⟨oc_Lraw_wanted, od_Lraw_wanted, .func (PySem.W.fnOf "_law_raw_wanted" "_law_raw_wanted" (defArgs s_Lraw_wanted) (defBody s_Lraw_wanted) (defScope s_Lraw_wanted) .none kV_Lraw_wanted dc_Lraw_wanted pm_Lraw_wanted an_Lraw_wanted cd_Lraw_wanted ct_Lraw_wanted), sl_Lraw_wanted⟩)
  (c_Lraw_wanted : PySem.W.codeIn K cd_Lraw_wanted "_law_raw_wanted" = true)
  (k_Lraw_wanted : PySem.W.keepIn K (.ref f_Lraw_wanted) = true)
  (a_Lneat_wanted : PySem.W.nsIn K mainGlobals "_law_neat_wanted" = some (some (.ref f_Lneat_wanted)))
  (l_Lneat_wanted : K.lookup f_Lneat_wanted = some ⟨oc_Lneat_wanted, od_Lneat_wanted, .func (PySem.W.fnOf "_law_neat_wanted" "_law_neat_wanted" (defArgs s_Lneat_wanted) (defBody s_Lneat_wanted) (defScope s_Lneat_wanted) .none kV_Lneat_wanted dc_Lneat_wanted pm_Lneat_wanted an_Lneat_wanted cd_Lneat_wanted ct_Lneat_wanted), sl_Lneat_wanted⟩)
  (c_Lneat_wanted : PySem.W.codeIn K cd_Lneat_wanted "_law_neat_wanted" = true)
  (k_Lneat_wanted : PySem.W.keepIn K (.ref f_Lneat_wanted) = true)
  (a_Ltruths : PySem.W.nsIn K mainGlobals "_law_truths" = some (some (.ref f_Ltruths)))
  (l_Ltruths : K.lookup f_Ltruths = some ⟨oc_Ltruths, od_Ltruths, .func (PySem.W.fnOf "_law_truths" "_law_truths" (defArgs s_Ltruths) (defBody s_Ltruths) (defScope s_Ltruths) .none kV_Ltruths dc_Ltruths pm_Ltruths an_Ltruths cd_Ltruths ct_Ltruths), sl_Ltruths⟩)
  (c_Ltruths : PySem.W.codeIn K cd_Ltruths "_law_truths" = true)
  (k_Ltruths : PySem.W.keepIn K (.ref f_Ltruths) = true)
  (a_Lgoal_facts : PySem.W.nsIn K mainGlobals "_law_goal_facts" = some (some (.ref f_Lgoal_facts)))
  (l_Lgoal_facts : K.lookup f_Lgoal_facts = some ⟨oc_Lgoal_facts, od_Lgoal_facts, .func (PySem.W.fnOf "_law_goal_facts" "_law_goal_facts" (defArgs s_Lgoal_facts) (defBody s_Lgoal_facts) (defScope s_Lgoal_facts) .none kV_Lgoal_facts dc_Lgoal_facts pm_Lgoal_facts an_Lgoal_facts cd_Lgoal_facts ct_Lgoal_facts), sl_Lgoal_facts⟩)
  (c_Lgoal_facts : PySem.W.codeIn K cd_Lgoal_facts "_law_goal_facts" = true)
  (k_Lgoal_facts : PySem.W.keepIn K (.ref f_Lgoal_facts) = true)
  (a_Lread : PySem.W.nsIn K mainGlobals "_law_read" = some (some (.ref f_Lread)))
  (l_Lread : K.lookup f_Lread = some ⟨oc_Lread, od_Lread, .func (PySem.W.fnOf "_law_read" "_law_read" (defArgs s_Lread) (defBody s_Lread) (defScope s_Lread) .none kV_Lread dc_Lread pm_Lread an_Lread cd_Lread ct_Lread), sl_Lread⟩)
  (c_Lread : PySem.W.codeIn K cd_Lread "_law_read" = true)
  (k_Lread : PySem.W.keepIn K (.ref f_Lread) = true)
  (a_Lyes : PySem.W.nsIn K mainGlobals "_law_yes" = some (some (.ref f_Lyes)))
  (l_Lyes : K.lookup f_Lyes = some ⟨oc_Lyes, od_Lyes, .func (PySem.W.fnOf "_law_yes" "_law_yes" (defArgs s_Lyes) (defBody s_Lyes) (defScope s_Lyes) .none kV_Lyes dc_Lyes pm_Lyes an_Lyes cd_Lyes ct_Lyes), sl_Lyes⟩)
  (c_Lyes : PySem.W.codeIn K cd_Lyes "_law_yes" = true)
  (k_Lyes : PySem.W.keepIn K (.ref f_Lyes) = true)
  (a_Ltext : PySem.W.nsIn K mainGlobals "_law_text" = some (some (.ref f_Ltext)))
  (l_Ltext : K.lookup f_Ltext = some ⟨oc_Ltext, od_Ltext, .func (PySem.W.fnOf "_law_text" "_law_text" (defArgs s_Ltext) (defBody s_Ltext) (defScope s_Ltext) .none kV_Ltext dc_Ltext pm_Ltext an_Ltext cd_Ltext ct_Ltext), sl_Ltext⟩)
  (c_Ltext : PySem.W.codeIn K cd_Ltext "_law_text" = true)
  (k_Ltext : PySem.W.keepIn K (.ref f_Ltext) = true)
  (a_Lbent_top : PySem.W.nsIn K mainGlobals "_law_bent_top" = some (some (.ref f_Lbent_top)))
  (l_Lbent_top : K.lookup f_Lbent_top = some ⟨oc_Lbent_top, od_Lbent_top, .func (PySem.W.fnOf "_law_bent_top" "_law_bent_top" (defArgs s_Lbent_top) (defBody s_Lbent_top) (defScope s_Lbent_top) .none kV_Lbent_top dc_Lbent_top pm_Lbent_top an_Lbent_top cd_Lbent_top ct_Lbent_top), sl_Lbent_top⟩)
  (c_Lbent_top : PySem.W.codeIn K cd_Lbent_top "_law_bent_top" = true)
  (k_Lbent_top : PySem.W.keepIn K (.ref f_Lbent_top) = true)
  (a_Lbent_couple : PySem.W.nsIn K mainGlobals "_law_bent_couple" = some (some (.ref f_Lbent_couple)))
  (l_Lbent_couple : K.lookup f_Lbent_couple = some ⟨oc_Lbent_couple, od_Lbent_couple, .func (PySem.W.fnOf "_law_bent_couple" "_law_bent_couple" (defArgs s_Lbent_couple) (defBody s_Lbent_couple) (defScope s_Lbent_couple) .none kV_Lbent_couple dc_Lbent_couple pm_Lbent_couple an_Lbent_couple cd_Lbent_couple ct_Lbent_couple), sl_Lbent_couple⟩)
  (c_Lbent_couple : PySem.W.codeIn K cd_Lbent_couple "_law_bent_couple" = true)
  (k_Lbent_couple : PySem.W.keepIn K (.ref f_Lbent_couple) = true)
  (a_Lbent_right : PySem.W.nsIn K mainGlobals "_law_bent_right" = some (some (.ref f_Lbent_right)))
  (l_Lbent_right : K.lookup f_Lbent_right = some ⟨oc_Lbent_right, od_Lbent_right, .func (PySem.W.fnOf "_law_bent_right" "_law_bent_right" (defArgs s_Lbent_right) (defBody s_Lbent_right) (defScope s_Lbent_right) .none kV_Lbent_right dc_Lbent_right pm_Lbent_right an_Lbent_right cd_Lbent_right ct_Lbent_right), sl_Lbent_right⟩)
  (c_Lbent_right : PySem.W.codeIn K cd_Lbent_right "_law_bent_right" = true)
  (k_Lbent_right : PySem.W.keepIn K (.ref f_Lbent_right) = true)
  (a_law : PySem.W.nsIn K mainGlobals "law" = some (some (.ref f_law)))
  (l_law : K.lookup f_law = some ⟨oc_law, od_law, .func (PySem.W.fnOf "law" "law" (defArgs s_law) (defBody s_law) (defScope s_law) .none kV_law dc_law pm_law an_law cd_law ct_law), sl_law⟩)
  (c_law : PySem.W.codeIn K cd_law "law" = true)
  (k_law : PySem.W.keepIn K (.ref f_law) = true)
  (k_CallError : PySem.W.keepIn K (.ref C_CallError) = true)
  (b_CallError : PySem.W.subIn K (.ref C_CallError) (.type "BaseException") = some true)
  (t_CallError : PySem.W.typeIn K (.ref C_CallError) = some (.type "type"))
  (i_CallError : PySem.W.isClsIn K C_CallError = true)
  (s_CallError : PySem.W.subIn K (.ref C_CallError) (.ref C_CallError) = some true)
  (x_CallError : PySem.W.excIn K C_CallError [.type "ValueError", .type "Exception", .type "BaseException", .type "object"] "ValueError.__new__" = true)
  (k_BadGoals : PySem.W.keepIn K (.ref C_BadGoals) = true)
  (b_BadGoals : PySem.W.subIn K (.ref C_BadGoals) (.type "BaseException") = some true)
  (t_BadGoals : PySem.W.typeIn K (.ref C_BadGoals) = some (.type "type"))
  (i_BadGoals : PySem.W.isClsIn K C_BadGoals = true)
  (s_BadGoals : PySem.W.subIn K (.ref C_BadGoals) (.ref C_BadGoals) = some true)
  (x_BadGoals : K.lookup C_BadGoals = some (excClassObj nm_BadGoals qn_BadGoals C_BadGoals N_BadGoals bs_BadGoals [.ref C_CallError, .type "ValueError", .type "Exception", .type "BaseException", .type "object"] true sn_BadGoals sb_BadGoals ab_BadGoals co_BadGoals dd_BadGoals m0_BadGoals m1_BadGoals m2_BadGoals m3_BadGoals m5_BadGoals "ValueError.__new__"))
  (sa_BadGoals : PySem.W.findIn K (.ref C_BadGoals) "__setattr__" = some (some (.builtin "object.__setattr__")))
  (ga_BadGoals : PySem.W.findIn K (.ref C_BadGoals) "__getattribute__" = some (some (.builtin "BaseException.__getattribute__")))
  (gg_BadGoals : PySem.W.findIn K (.ref C_BadGoals) "__getattr__" = some none)
  (hd_BadGoals : PySem.W.hasDictIn K C_BadGoals = true)
  (y_BadGoals : PySem.W.typeIn K (.ref f_BadGoalsu_initu) = some (.type "function"))
  (n_BadGoals_what : PySem.W.findIn K (.ref C_BadGoals) "what" = some none)
  (k_BadText : PySem.W.keepIn K (.ref C_BadText) = true)
  (b_BadText : PySem.W.subIn K (.ref C_BadText) (.type "BaseException") = some true)
  (t_BadText : PySem.W.typeIn K (.ref C_BadText) = some (.type "type"))
  (i_BadText : PySem.W.isClsIn K C_BadText = true)
  (s_BadText : PySem.W.subIn K (.ref C_BadText) (.ref C_BadText) = some true)
  (x_BadText : K.lookup C_BadText = some (excClassObj nm_BadText qn_BadText C_BadText N_BadText bs_BadText [.ref C_CallError, .type "ValueError", .type "Exception", .type "BaseException", .type "object"] true sn_BadText sb_BadText ab_BadText co_BadText dd_BadText m0_BadText m1_BadText m2_BadText m3_BadText m5_BadText "ValueError.__new__"))
  (sa_BadText : PySem.W.findIn K (.ref C_BadText) "__setattr__" = some (some (.builtin "object.__setattr__")))
  (ga_BadText : PySem.W.findIn K (.ref C_BadText) "__getattribute__" = some (some (.builtin "BaseException.__getattribute__")))
  (gg_BadText : PySem.W.findIn K (.ref C_BadText) "__getattr__" = some none)
  (hd_BadText : PySem.W.hasDictIn K C_BadText = true)
  (y_BadText : PySem.W.typeIn K (.ref f_BadTextu_initu) = some (.type "function"))
  (n_BadText_number : PySem.W.findIn K (.ref C_BadText) "number" = some none)
  (n_BadText_what : PySem.W.findIn K (.ref C_BadText) "what" = some none)
  (kp_Goals : PySem.W.keepIn K (.ref C_Goals) = true)
  (pg_Goals : PySem.W.plainGet K C_Goals Str.empty = true)
  (hd_Goals : PySem.W.hasDictIn K C_Goals = true)
  (po_Goals : PySem.W.plainOver K C_Goals = true)
  (sa_Goals : PySem.W.findIn K (.ref C_Goals) "__setattr__" = some (some (.builtin "object.__setattr__")))
  (mk_Goals : PySem.W.makesIn K C_Goals = true)
  (fn_Goalsu_initu : PySem.W.isFn K (.ref f_Goalsu_initu) = true)
  (fn_Goalsu_equ : PySem.W.isFn K (.ref f_Goalsu_equ) = true)
  (n_Goals_ladder : PySem.W.findIn K (.ref C_Goals) "ladder" = some none)
  (n_Goals_wanted : PySem.W.findIn K (.ref C_Goals) "wanted" = some none)
  (n_Goals_knows : PySem.W.findIn K (.ref C_Goals) "knows" = some none)
  (n_Goals_sides : PySem.W.findIn K (.ref C_Goals) "sides" = some none)
  (z_ValueError : PySem.W.nsIn K mainGlobals "ValueError" = some none)
  (z_abs : PySem.W.nsIn K mainGlobals "abs" = some none)
  (z_all : PySem.W.nsIn K mainGlobals "all" = some none)
  (z_bool : PySem.W.nsIn K mainGlobals "bool" = some none)
  (z_enumerate : PySem.W.nsIn K mainGlobals "enumerate" = some none)
  (z_int : PySem.W.nsIn K mainGlobals "int" = some none)
  (z_isinstance : PySem.W.nsIn K mainGlobals "isinstance" = some none)
  (z_len : PySem.W.nsIn K mainGlobals "len" = some none)
  (z_list : PySem.W.nsIn K mainGlobals "list" = some none)
  (z_min : PySem.W.nsIn K mainGlobals "min" = some none)
  (z_range : PySem.W.nsIn K mainGlobals "range" = some none)
  (z_set : PySem.W.nsIn K mainGlobals "set" = some none)
  (z_sorted : PySem.W.nsIn K mainGlobals "sorted" = some none)
  (z_staticmethod : PySem.W.nsIn K mainGlobals "staticmethod" = some none)
  (z_str : PySem.W.nsIn K mainGlobals "str" = some none)
  (z_tuple : PySem.W.nsIn K mainGlobals "tuple" = some none)
  (c_EAST : PySem.W.nsIn K mainGlobals "EAST" = some (some (.int (0) t_EAST)))
  (c_WEST : PySem.W.nsIn K mainGlobals "WEST" = some (some (.int (1) t_WEST)))
  (c_LADDER_MOST : PySem.W.nsIn K mainGlobals "LADDER_MOST" = some (some (.int (6) t_LADDER_MOST)))
  (c_KINDS_MOST : PySem.W.nsIn K mainGlobals "KINDS_MOST" = some (some (.int (6) t_KINDS_MOST)))
  (c_COUPLES_MOST : PySem.W.nsIn K mainGlobals "COUPLES_MOST" = some (some (.int (12) t_COUPLES_MOST)))
  (c_FIGURES : PySem.W.nsIn K mainGlobals "FIGURES" = some (some (.str "0123456789" t_FIGURES)))
  (c_FIGURES_MOST : PySem.W.nsIn K mainGlobals "FIGURES_MOST" = some (some (.int (6) t_FIGURES_MOST)))
  (zz_i_Goals_ca : PySem.W.findIn K (.ref C_Goals) "__class__" = some (some (.builtin "object.__class__")))
  (zz_i_Goals_cn : PySem.W.specialIn K (.builtin "object.__class__") "__get__" = some (some (.builtin "getset_descriptor.__get__")))
  (zz_i_Goals_ct : PySem.W.takesIn K (.builtin "object.__class__") = some true)
  (zz_i_Goals_cm : PySem.W.mroIn K C_Goals (.type "object") = some true)
  (zz_i_Goals_kt : PySem.W.kitOne K (.type "tuple") (.ref C_Goals) = some false)
  (zz_i_Goals_nt : PySem.W.notFirst K C_Goals (.type "tuple") = true)
  (zz_i_Goals_ne : PySem.W.findIn K (.ref C_Goals) "__ne__" = some (some (.builtin "object.__ne__"))) :
    ∃ fd : FuncData, (∀ (s : Shared) (v : Value), BindsTo s fd ⟨[v], []⟩ [("_law_script", v)]) ∧ ∀ base : Heap, K.In base → base.Ns mainGlobals mg → FnOk P w K mg base CX0 10 fa fd ["_law_script"] (sp_law K) := by
  have e : f_law = fa := Value.ref.inj (Option.some.inj ((PySem.W.mg_of X G a_law).symm.trans hfa))
  subst e
  have F_BadGoalsu_initu := fun_mk (st := s_BadGoalsu_initu) l_BadGoalsu_initu c_BadGoalsu_initu k_BadGoalsu_initu
  have F_BadTextu_initu := fun_mk (st := s_BadTextu_initu) l_BadTextu_initu c_BadTextu_initu k_BadTextu_initu
  have F_is_whole : FunD K "is_whole" "is_whole" (defArgs s_is_whole) (defBody s_is_whole) (defScope s_is_whole) [.non, .non] [] f_is_whole (PySem.W.fnOf "is_whole" "is_whole" (defArgs s_is_whole) (defBody s_is_whole) (defScope s_is_whole) (.ref q_is_whole) kV_is_whole dc_is_whole pm_is_whole an_is_whole cd_is_whole ct_is_whole) := ⟨⟨oc_is_whole, od_is_whole, _, kV_is_whole, dc_is_whole, pm_is_whole, an_is_whole, cd_is_whole, ct_is_whole, sl_is_whole, rfl, l_is_whole, c_is_whole, .inr ⟨by simp, q_is_whole, _, [Value.none, Value.none], qn_is_whole, rfl, t_is_whole, rfl, (.cons rfl (.cons rfl .nil))⟩, .inl rfl⟩, k_is_whole⟩
  have F_is_truth := fun_mk (st := s_is_truth) l_is_truth c_is_truth k_is_truth
  have F_is_sequence := fun_mk (st := s_is_sequence) l_is_sequence c_is_sequence k_is_sequence
  have F_are_sides := fun_mk (st := s_are_sides) l_are_sides c_are_sides k_are_sides
  have F_couples_of := fun_mk (st := s_couples_of) l_couples_of c_couples_of k_couples_of
  have F_sides_of_lines := fun_mk (st := s_sides_of_lines) l_sides_of_lines c_sides_of_lines k_sides_of_lines
  have F_are_ends := fun_mk (st := s_are_ends) l_are_ends c_are_ends k_are_ends
  have F_is_knowing := fun_mk (st := s_is_knowing) l_is_knowing c_is_knowing k_is_knowing
  have F_Goalsu_initu : FunD K "__init__" "Goals.__init__" (defArgs s_Goalsu_initu) (defBody s_Goalsu_initu) (defScope s_Goalsu_initu) [(.ref w0_Goalsu_initu)] [] f_Goalsu_initu (PySem.W.fnOf "__init__" "Goals.__init__" (defArgs s_Goalsu_initu) (defBody s_Goalsu_initu) (defScope s_Goalsu_initu) (.ref q_Goalsu_initu) kV_Goalsu_initu dc_Goalsu_initu pm_Goalsu_initu an_Goalsu_initu cd_Goalsu_initu ct_Goalsu_initu) := ⟨⟨oc_Goalsu_initu, od_Goalsu_initu, _, kV_Goalsu_initu, dc_Goalsu_initu, pm_Goalsu_initu, an_Goalsu_initu, cd_Goalsu_initu, ct_Goalsu_initu, sl_Goalsu_initu, rfl, l_Goalsu_initu, c_Goalsu_initu, .inr ⟨by simp, q_Goalsu_initu, _, [Value.ref w0_Goalsu_initu], qn_Goalsu_initu, rfl, t_Goalsu_initu, rfl, (.cons rfl .nil)⟩, .inl rfl⟩, k_Goalsu_initu⟩
  have F_Goalsu_equ := fun_mk (st := s_Goalsu_equ) l_Goalsu_equ c_Goalsu_equ k_Goalsu_equ
  have F_yes_or_no := fun_mk (st := s_yes_or_no) l_yes_or_no c_yes_or_no k_yes_or_no
  have F_goals_text := fun_mk (st := s_goals_text) l_goals_text c_goals_text k_goals_text
  have F_number_from := fun_mk (st := s_number_from) l_number_from c_number_from k_number_from
  have F_end_from := fun_mk (st := s_end_from) l_end_from c_end_from k_end_from
  have F_numbers_from := fun_mk (st := s_numbers_from) l_numbers_from c_numbers_from k_numbers_from
  have F_words_behind := fun_mk (st := s_words_behind) l_words_behind c_words_behind k_words_behind
  have F_numbers_behind := fun_mk (st := s_numbers_behind) l_numbers_behind c_numbers_behind k_numbers_behind
  have F_read_ladder := fun_mk (st := s_read_ladder) l_read_ladder c_read_ladder k_read_ladder
  have F_read_sides := fun_mk (st := s_read_sides) l_read_sides c_read_sides k_read_sides
  have F_read_truths := fun_mk (st := s_read_truths) l_read_truths c_read_truths k_read_truths
  have F_read_ends := fun_mk (st := s_read_ends) l_read_ends c_read_ends k_read_ends
  have F_read_goals := fun_mk (st := s_read_goals) l_read_goals c_read_goals k_read_goals
  have F_Lmix := fun_mk (st := s_Lmix) l_Lmix c_Lmix k_Lmix
  have F_Lhand := fun_mk (st := s_Lhand) l_Lhand c_Lhand k_Lhand
  have F_Ldraw := fun_mk (st := s_Ldraw) l_Ldraw c_Ldraw k_Ldraw
  have F_Lwhole := fun_mk (st := s_Lwhole) l_Lwhole c_Lwhole k_Lwhole
  have F_Lcouples := fun_mk (st := s_Lcouples) l_Lcouples c_Lcouples k_Lcouples
  have F_Lis := fun_mk (st := s_Lis) l_Lis c_Lis k_Lis
  have F_Lwide_sides := fun_mk (st := s_Lwide_sides) l_Lwide_sides c_Lwide_sides k_Lwide_sides
  have F_Lends := fun_mk (st := s_Lends) l_Lends c_Lends k_Lends
  have F_Lneat := fun_mk (st := s_Lneat) l_Lneat c_Lneat k_Lneat
  have F_Lraw_wanted := fun_mk (st := s_Lraw_wanted) l_Lraw_wanted c_Lraw_wanted k_Lraw_wanted
  have F_Lneat_wanted := fun_mk (st := s_Lneat_wanted) l_Lneat_wanted c_Lneat_wanted k_Lneat_wanted
  have F_Ltruths := fun_mk (st := s_Ltruths) l_Ltruths c_Ltruths k_Ltruths
  have F_Lgoal_facts := fun_mk (st := s_Lgoal_facts) l_Lgoal_facts c_Lgoal_facts k_Lgoal_facts
  have F_Lread := fun_mk (st := s_Lread) l_Lread c_Lread k_Lread
  have F_Lyes := fun_mk (st := s_Lyes) l_Lyes c_Lyes k_Lyes
  have F_Ltext := fun_mk (st := s_Ltext) l_Ltext c_Ltext k_Ltext
  have F_Lbent_top := fun_mk (st := s_Lbent_top) l_Lbent_top c_Lbent_top k_Lbent_top
  have F_Lbent_couple := fun_mk (st := s_Lbent_couple) l_Lbent_couple c_Lbent_couple k_Lbent_couple
  have F_Lbent_right := fun_mk (st := s_Lbent_right) l_Lbent_right c_Lbent_right k_Lbent_right
  have F_law := fun_mk (st := s_law) l_law c_law k_law
  let T : Tx := {
    f_BadGoalsu_initu := f_BadGoalsu_initu,
    d_BadGoalsu_initu := PySem.W.fnOf "__init__" "BadGoals.__init__" (defArgs s_BadGoalsu_initu) (defBody s_BadGoalsu_initu) (defScope s_BadGoalsu_initu) .none kV_BadGoalsu_initu dc_BadGoalsu_initu pm_BadGoalsu_initu an_BadGoalsu_initu cd_BadGoalsu_initu ct_BadGoalsu_initu,
    f_BadTextu_initu := f_BadTextu_initu,
    d_BadTextu_initu := PySem.W.fnOf "__init__" "BadText.__init__" (defArgs s_BadTextu_initu) (defBody s_BadTextu_initu) (defScope s_BadTextu_initu) .none kV_BadTextu_initu dc_BadTextu_initu pm_BadTextu_initu an_BadTextu_initu cd_BadTextu_initu ct_BadTextu_initu,
    f_is_whole := f_is_whole,
    d_is_whole := PySem.W.fnOf "is_whole" "is_whole" (defArgs s_is_whole) (defBody s_is_whole) (defScope s_is_whole) (.ref q_is_whole) kV_is_whole dc_is_whole pm_is_whole an_is_whole cd_is_whole ct_is_whole,
    e1_is_whole := [Value.none],
    e2_is_whole := [Value.none, Value.none],
    f_is_truth := f_is_truth,
    d_is_truth := PySem.W.fnOf "is_truth" "is_truth" (defArgs s_is_truth) (defBody s_is_truth) (defScope s_is_truth) .none kV_is_truth dc_is_truth pm_is_truth an_is_truth cd_is_truth ct_is_truth,
    f_is_sequence := f_is_sequence,
    d_is_sequence := PySem.W.fnOf "is_sequence" "is_sequence" (defArgs s_is_sequence) (defBody s_is_sequence) (defScope s_is_sequence) .none kV_is_sequence dc_is_sequence pm_is_sequence an_is_sequence cd_is_sequence ct_is_sequence,
    f_are_sides := f_are_sides,
    d_are_sides := PySem.W.fnOf "are_sides" "are_sides" (defArgs s_are_sides) (defBody s_are_sides) (defScope s_are_sides) .none kV_are_sides dc_are_sides pm_are_sides an_are_sides cd_are_sides ct_are_sides,
    f_couples_of := f_couples_of,
    d_couples_of := PySem.W.fnOf "couples_of" "couples_of" (defArgs s_couples_of) (defBody s_couples_of) (defScope s_couples_of) .none kV_couples_of dc_couples_of pm_couples_of an_couples_of cd_couples_of ct_couples_of,
    f_sides_of_lines := f_sides_of_lines,
    d_sides_of_lines := PySem.W.fnOf "sides_of_lines" "sides_of_lines" (defArgs s_sides_of_lines) (defBody s_sides_of_lines) (defScope s_sides_of_lines) .none kV_sides_of_lines dc_sides_of_lines pm_sides_of_lines an_sides_of_lines cd_sides_of_lines ct_sides_of_lines,
    f_are_ends := f_are_ends,
    d_are_ends := PySem.W.fnOf "are_ends" "are_ends" (defArgs s_are_ends) (defBody s_are_ends) (defScope s_are_ends) .none kV_are_ends dc_are_ends pm_are_ends an_are_ends cd_are_ends ct_are_ends,
    f_is_knowing := f_is_knowing,
    d_is_knowing := PySem.W.fnOf "is_knowing" "is_knowing" (defArgs s_is_knowing) (defBody s_is_knowing) (defScope s_is_knowing) .none kV_is_knowing dc_is_knowing pm_is_knowing an_is_knowing cd_is_knowing ct_is_knowing,
    f_Goalsu_initu := f_Goalsu_initu,
    d_Goalsu_initu := PySem.W.fnOf "__init__" "Goals.__init__" (defArgs s_Goalsu_initu) (defBody s_Goalsu_initu) (defScope s_Goalsu_initu) (.ref q_Goalsu_initu) kV_Goalsu_initu dc_Goalsu_initu pm_Goalsu_initu an_Goalsu_initu cd_Goalsu_initu ct_Goalsu_initu,
    w0_Goalsu_initu := w0_Goalsu_initu,
    e1_Goalsu_initu := [Value.ref w0_Goalsu_initu],
    f_Goalsu_equ := f_Goalsu_equ,
    d_Goalsu_equ := PySem.W.fnOf "__eq__" "Goals.__eq__" (defArgs s_Goalsu_equ) (defBody s_Goalsu_equ) (defScope s_Goalsu_equ) .none kV_Goalsu_equ dc_Goalsu_equ pm_Goalsu_equ an_Goalsu_equ cd_Goalsu_equ ct_Goalsu_equ,
    f_yes_or_no := f_yes_or_no,
    d_yes_or_no := PySem.W.fnOf "yes_or_no" "yes_or_no" (defArgs s_yes_or_no) (defBody s_yes_or_no) (defScope s_yes_or_no) .none kV_yes_or_no dc_yes_or_no pm_yes_or_no an_yes_or_no cd_yes_or_no ct_yes_or_no,
    f_goals_text := f_goals_text,
    d_goals_text := PySem.W.fnOf "goals_text" "goals_text" (defArgs s_goals_text) (defBody s_goals_text) (defScope s_goals_text) .none kV_goals_text dc_goals_text pm_goals_text an_goals_text cd_goals_text ct_goals_text,
    f_number_from := f_number_from,
    d_number_from := PySem.W.fnOf "number_from" "number_from" (defArgs s_number_from) (defBody s_number_from) (defScope s_number_from) .none kV_number_from dc_number_from pm_number_from an_number_from cd_number_from ct_number_from,
    f_end_from := f_end_from,
    d_end_from := PySem.W.fnOf "end_from" "end_from" (defArgs s_end_from) (defBody s_end_from) (defScope s_end_from) .none kV_end_from dc_end_from pm_end_from an_end_from cd_end_from ct_end_from,
    f_numbers_from := f_numbers_from,
    d_numbers_from := PySem.W.fnOf "numbers_from" "numbers_from" (defArgs s_numbers_from) (defBody s_numbers_from) (defScope s_numbers_from) .none kV_numbers_from dc_numbers_from pm_numbers_from an_numbers_from cd_numbers_from ct_numbers_from,
    f_words_behind := f_words_behind,
    d_words_behind := PySem.W.fnOf "words_behind" "words_behind" (defArgs s_words_behind) (defBody s_words_behind) (defScope s_words_behind) .none kV_words_behind dc_words_behind pm_words_behind an_words_behind cd_words_behind ct_words_behind,
    f_numbers_behind := f_numbers_behind,
    d_numbers_behind := PySem.W.fnOf "numbers_behind" "numbers_behind" (defArgs s_numbers_behind) (defBody s_numbers_behind) (defScope s_numbers_behind) .none kV_numbers_behind dc_numbers_behind pm_numbers_behind an_numbers_behind cd_numbers_behind ct_numbers_behind,
    f_read_ladder := f_read_ladder,
    d_read_ladder := PySem.W.fnOf "read_ladder" "read_ladder" (defArgs s_read_ladder) (defBody s_read_ladder) (defScope s_read_ladder) .none kV_read_ladder dc_read_ladder pm_read_ladder an_read_ladder cd_read_ladder ct_read_ladder,
    f_read_sides := f_read_sides,
    d_read_sides := PySem.W.fnOf "read_sides" "read_sides" (defArgs s_read_sides) (defBody s_read_sides) (defScope s_read_sides) .none kV_read_sides dc_read_sides pm_read_sides an_read_sides cd_read_sides ct_read_sides,
    f_read_truths := f_read_truths,
    d_read_truths := PySem.W.fnOf "read_truths" "read_truths" (defArgs s_read_truths) (defBody s_read_truths) (defScope s_read_truths) .none kV_read_truths dc_read_truths pm_read_truths an_read_truths cd_read_truths ct_read_truths,
    f_read_ends := f_read_ends,
    d_read_ends := PySem.W.fnOf "read_ends" "read_ends" (defArgs s_read_ends) (defBody s_read_ends) (defScope s_read_ends) .none kV_read_ends dc_read_ends pm_read_ends an_read_ends cd_read_ends ct_read_ends,
    f_read_goals := f_read_goals,
    d_read_goals := PySem.W.fnOf "read_goals" "read_goals" (defArgs s_read_goals) (defBody s_read_goals) (defScope s_read_goals) .none kV_read_goals dc_read_goals pm_read_goals an_read_goals cd_read_goals ct_read_goals,
    f_Lmix := f_Lmix,
    d_Lmix := PySem.W.fnOf "_law_mix" "_law_mix" (defArgs s_Lmix) (defBody s_Lmix) (defScope s_Lmix) .none kV_Lmix dc_Lmix pm_Lmix an_Lmix cd_Lmix ct_Lmix,
    f_Lhand := f_Lhand,
    d_Lhand := PySem.W.fnOf "_law_hand" "_law_hand" (defArgs s_Lhand) (defBody s_Lhand) (defScope s_Lhand) .none kV_Lhand dc_Lhand pm_Lhand an_Lhand cd_Lhand ct_Lhand,
    f_Ldraw := f_Ldraw,
    d_Ldraw := PySem.W.fnOf "_law_draw" "_law_draw" (defArgs s_Ldraw) (defBody s_Ldraw) (defScope s_Ldraw) .none kV_Ldraw dc_Ldraw pm_Ldraw an_Ldraw cd_Ldraw ct_Ldraw,
    f_Lwhole := f_Lwhole,
    d_Lwhole := PySem.W.fnOf "_law_whole" "_law_whole" (defArgs s_Lwhole) (defBody s_Lwhole) (defScope s_Lwhole) .none kV_Lwhole dc_Lwhole pm_Lwhole an_Lwhole cd_Lwhole ct_Lwhole,
    f_Lcouples := f_Lcouples,
    d_Lcouples := PySem.W.fnOf "_law_couples" "_law_couples" (defArgs s_Lcouples) (defBody s_Lcouples) (defScope s_Lcouples) .none kV_Lcouples dc_Lcouples pm_Lcouples an_Lcouples cd_Lcouples ct_Lcouples,
    f_Lis := f_Lis,
    d_Lis := PySem.W.fnOf "_law_is" "_law_is" (defArgs s_Lis) (defBody s_Lis) (defScope s_Lis) .none kV_Lis dc_Lis pm_Lis an_Lis cd_Lis ct_Lis,
    f_Lwide_sides := f_Lwide_sides,
    d_Lwide_sides := PySem.W.fnOf "_law_wide_sides" "_law_wide_sides" (defArgs s_Lwide_sides) (defBody s_Lwide_sides) (defScope s_Lwide_sides) .none kV_Lwide_sides dc_Lwide_sides pm_Lwide_sides an_Lwide_sides cd_Lwide_sides ct_Lwide_sides,
    f_Lends := f_Lends,
    d_Lends := PySem.W.fnOf "_law_ends" "_law_ends" (defArgs s_Lends) (defBody s_Lends) (defScope s_Lends) .none kV_Lends dc_Lends pm_Lends an_Lends cd_Lends ct_Lends,
    f_Lneat := f_Lneat,
    d_Lneat := PySem.W.fnOf "_law_neat" "_law_neat" (defArgs s_Lneat) (defBody s_Lneat) (defScope s_Lneat) .none kV_Lneat dc_Lneat pm_Lneat an_Lneat cd_Lneat ct_Lneat,
    f_Lraw_wanted := f_Lraw_wanted,
    d_Lraw_wanted := PySem.W.fnOf "_law_raw_wanted" "_law_raw_wanted" (defArgs s_Lraw_wanted) (defBody s_Lraw_wanted) (defScope s_Lraw_wanted) .none kV_Lraw_wanted dc_Lraw_wanted pm_Lraw_wanted an_Lraw_wanted cd_Lraw_wanted ct_Lraw_wanted,
    f_Lneat_wanted := f_Lneat_wanted,
    d_Lneat_wanted := PySem.W.fnOf "_law_neat_wanted" "_law_neat_wanted" (defArgs s_Lneat_wanted) (defBody s_Lneat_wanted) (defScope s_Lneat_wanted) .none kV_Lneat_wanted dc_Lneat_wanted pm_Lneat_wanted an_Lneat_wanted cd_Lneat_wanted ct_Lneat_wanted,
    f_Ltruths := f_Ltruths,
    d_Ltruths := PySem.W.fnOf "_law_truths" "_law_truths" (defArgs s_Ltruths) (defBody s_Ltruths) (defScope s_Ltruths) .none kV_Ltruths dc_Ltruths pm_Ltruths an_Ltruths cd_Ltruths ct_Ltruths,
    f_Lgoal_facts := f_Lgoal_facts,
    d_Lgoal_facts := PySem.W.fnOf "_law_goal_facts" "_law_goal_facts" (defArgs s_Lgoal_facts) (defBody s_Lgoal_facts) (defScope s_Lgoal_facts) .none kV_Lgoal_facts dc_Lgoal_facts pm_Lgoal_facts an_Lgoal_facts cd_Lgoal_facts ct_Lgoal_facts,
    f_Lread := f_Lread,
    d_Lread := PySem.W.fnOf "_law_read" "_law_read" (defArgs s_Lread) (defBody s_Lread) (defScope s_Lread) .none kV_Lread dc_Lread pm_Lread an_Lread cd_Lread ct_Lread,
    f_Lyes := f_Lyes,
    d_Lyes := PySem.W.fnOf "_law_yes" "_law_yes" (defArgs s_Lyes) (defBody s_Lyes) (defScope s_Lyes) .none kV_Lyes dc_Lyes pm_Lyes an_Lyes cd_Lyes ct_Lyes,
    f_Ltext := f_Ltext,
    d_Ltext := PySem.W.fnOf "_law_text" "_law_text" (defArgs s_Ltext) (defBody s_Ltext) (defScope s_Ltext) .none kV_Ltext dc_Ltext pm_Ltext an_Ltext cd_Ltext ct_Ltext,
    f_Lbent_top := f_Lbent_top,
    d_Lbent_top := PySem.W.fnOf "_law_bent_top" "_law_bent_top" (defArgs s_Lbent_top) (defBody s_Lbent_top) (defScope s_Lbent_top) .none kV_Lbent_top dc_Lbent_top pm_Lbent_top an_Lbent_top cd_Lbent_top ct_Lbent_top,
    f_Lbent_couple := f_Lbent_couple,
    d_Lbent_couple := PySem.W.fnOf "_law_bent_couple" "_law_bent_couple" (defArgs s_Lbent_couple) (defBody s_Lbent_couple) (defScope s_Lbent_couple) .none kV_Lbent_couple dc_Lbent_couple pm_Lbent_couple an_Lbent_couple cd_Lbent_couple ct_Lbent_couple,
    f_Lbent_right := f_Lbent_right,
    d_Lbent_right := PySem.W.fnOf "_law_bent_right" "_law_bent_right" (defArgs s_Lbent_right) (defBody s_Lbent_right) (defScope s_Lbent_right) .none kV_Lbent_right dc_Lbent_right pm_Lbent_right an_Lbent_right cd_Lbent_right ct_Lbent_right,
    f_law := f_law,
    d_law := PySem.W.fnOf "law" "law" (defArgs s_law) (defBody s_law) (defScope s_law) .none kV_law dc_law pm_law an_law cd_law ct_law,
    C_CallError := C_CallError,
    C_BadGoals := C_BadGoals,
    C_BadText := C_BadText,
    C_Goals := C_Goals,
    t_EAST := t_EAST,
    t_WEST := t_WEST,
    t_LADDER_MOST := t_LADDER_MOST,
    t_KINDS_MOST := t_KINDS_MOST,
    t_COUPLES_MOST := t_COUPLES_MOST,
    t_FIGURES := t_FIGURES,
    t_FIGURES_MOST := t_FIGURES_MOST }
  have O : Ok K mg T := {
    F_BadGoalsu_initu := F_BadGoalsu_initu,
    b_BadGoalsu_initu := F_BadGoalsu_initu.binds (ps := ["self", "what"]) fun _ _ _ _ _ _ us hl => match us, hl with | [_, _], _ => rfl,
    F_BadTextu_initu := F_BadTextu_initu,
    b_BadTextu_initu := F_BadTextu_initu.binds (ps := ["self", "number", "what"]) fun _ _ _ _ _ _ us hl => match us, hl with | [_, _, _], _ => rfl,
    F_is_whole := F_is_whole,
    b_is_whole := Jv.bindsD (K := K) (T := q_is_whole) (m := 3) t_is_whole rfl rfl fun us hl => match us, hl with | [_, _, _], _ => ⟨_, rfl, rfl⟩,
    b1_is_whole := ⟨(.cons rfl .nil), Jv.bindsD (K := K) (T := q_is_whole) (m := 2) t_is_whole rfl rfl fun us hl => match us, hl with | [_, _], _ => ⟨_, rfl, rfl⟩⟩,
    b2_is_whole := ⟨(.cons rfl (.cons rfl .nil)), Jv.bindsD (K := K) (T := q_is_whole) (m := 1) t_is_whole rfl rfl fun us hl => match us, hl with | [_], _ => ⟨_, rfl, rfl⟩⟩,
    m_is_whole := PySem.W.mg_of X G a_is_whole,
    F_is_truth := F_is_truth,
    b_is_truth := F_is_truth.binds (ps := ["thing"]) fun _ _ _ _ _ _ us hl => match us, hl with | [_], _ => rfl,
    m_is_truth := PySem.W.mg_of X G a_is_truth,
    F_is_sequence := F_is_sequence,
    b_is_sequence := F_is_sequence.binds (ps := ["thing"]) fun _ _ _ _ _ _ us hl => match us, hl with | [_], _ => rfl,
    m_is_sequence := PySem.W.mg_of X G a_is_sequence,
    F_are_sides := F_are_sides,
    b_are_sides := F_are_sides.binds (ps := ["thing"]) fun _ _ _ _ _ _ us hl => match us, hl with | [_], _ => rfl,
    m_are_sides := PySem.W.mg_of X G a_are_sides,
    F_couples_of := F_couples_of,
    b_couples_of := F_couples_of.binds (ps := ["sides"]) fun _ _ _ _ _ _ us hl => match us, hl with | [_], _ => rfl,
    m_couples_of := PySem.W.mg_of X G a_couples_of,
    F_sides_of_lines := F_sides_of_lines,
    b_sides_of_lines := F_sides_of_lines.binds (ps := ["lines"]) fun _ _ _ _ _ _ us hl => match us, hl with | [_], _ => rfl,
    m_sides_of_lines := PySem.W.mg_of X G a_sides_of_lines,
    F_are_ends := F_are_ends,
    b_are_ends := F_are_ends.binds (ps := ["thing", "ladder"]) fun _ _ _ _ _ _ us hl => match us, hl with | [_, _], _ => rfl,
    m_are_ends := PySem.W.mg_of X G a_are_ends,
    F_is_knowing := F_is_knowing,
    b_is_knowing := F_is_knowing.binds (ps := ["thing"]) fun _ _ _ _ _ _ us hl => match us, hl with | [_], _ => rfl,
    m_is_knowing := PySem.W.mg_of X G a_is_knowing,
    y0_Goalsu_initu := fun _ => .inr ⟨_, _, _, w0_Goalsu_initu_, rfl, rfl, Nat.le_of_ble_eq_true rfl, (.cons rfl (.cons rfl .nil))⟩,
    F_Goalsu_initu := F_Goalsu_initu,
    b_Goalsu_initu := Jv.bindsD (K := K) (T := q_Goalsu_initu) (m := 4) t_Goalsu_initu rfl rfl fun us hl => match us, hl with | [_, _, _, _], _ => ⟨_, rfl, rfl⟩,
    b1_Goalsu_initu := ⟨(.cons rfl .nil), Jv.bindsD (K := K) (T := q_Goalsu_initu) (m := 3) t_Goalsu_initu rfl rfl fun us hl => match us, hl with | [_, _, _], _ => ⟨_, rfl, rfl⟩⟩,
    F_Goalsu_equ := F_Goalsu_equ,
    b_Goalsu_equ := F_Goalsu_equ.binds (ps := ["self", "other"]) fun _ _ _ _ _ _ us hl => match us, hl with | [_, _], _ => rfl,
    F_yes_or_no := F_yes_or_no,
    b_yes_or_no := F_yes_or_no.binds (ps := ["truth"]) fun _ _ _ _ _ _ us hl => match us, hl with | [_], _ => rfl,
    m_yes_or_no := PySem.W.mg_of X G a_yes_or_no,
    F_goals_text := F_goals_text,
    b_goals_text := F_goals_text.binds (ps := ["goals"]) fun _ _ _ _ _ _ us hl => match us, hl with | [_], _ => rfl,
    m_goals_text := PySem.W.mg_of X G a_goals_text,
    F_number_from := F_number_from,
    b_number_from := F_number_from.binds (ps := ["word"]) fun _ _ _ _ _ _ us hl => match us, hl with | [_], _ => rfl,
    m_number_from := PySem.W.mg_of X G a_number_from,
    F_end_from := F_end_from,
    b_end_from := F_end_from.binds (ps := ["word"]) fun _ _ _ _ _ _ us hl => match us, hl with | [_], _ => rfl,
    m_end_from := PySem.W.mg_of X G a_end_from,
    F_numbers_from := F_numbers_from,
    b_numbers_from := F_numbers_from.binds (ps := ["text"]) fun _ _ _ _ _ _ us hl => match us, hl with | [_], _ => rfl,
    m_numbers_from := PySem.W.mg_of X G a_numbers_from,
    F_words_behind := F_words_behind,
    b_words_behind := F_words_behind.binds (ps := ["lines", "number", "head", "many"]) fun _ _ _ _ _ _ us hl => match us, hl with | [_, _, _, _], _ => rfl,
    m_words_behind := PySem.W.mg_of X G a_words_behind,
    F_numbers_behind := F_numbers_behind,
    b_numbers_behind := F_numbers_behind.binds (ps := ["lines", "number", "head", "many"]) fun _ _ _ _ _ _ us hl => match us, hl with | [_, _, _, _], _ => rfl,
    m_numbers_behind := PySem.W.mg_of X G a_numbers_behind,
    F_read_ladder := F_read_ladder,
    b_read_ladder := F_read_ladder.binds (ps := ["lines"]) fun _ _ _ _ _ _ us hl => match us, hl with | [_], _ => rfl,
    m_read_ladder := PySem.W.mg_of X G a_read_ladder,
    F_read_sides := F_read_sides,
    b_read_sides := F_read_sides.binds (ps := ["lines"]) fun _ _ _ _ _ _ us hl => match us, hl with | [_], _ => rfl,
    m_read_sides := PySem.W.mg_of X G a_read_sides,
    F_read_truths := F_read_truths,
    b_read_truths := F_read_truths.binds (ps := ["lines", "head", "many"]) fun _ _ _ _ _ _ us hl => match us, hl with | [_, _, _], _ => rfl,
    m_read_truths := PySem.W.mg_of X G a_read_truths,
    F_read_ends := F_read_ends,
    b_read_ends := F_read_ends.binds (ps := ["lines", "number", "couple", "ladder"]) fun _ _ _ _ _ _ us hl => match us, hl with | [_, _, _, _], _ => rfl,
    m_read_ends := PySem.W.mg_of X G a_read_ends,
    F_read_goals := F_read_goals,
    b_read_goals := F_read_goals.binds (ps := ["text"]) fun _ _ _ _ _ _ us hl => match us, hl with | [_], _ => rfl,
    m_read_goals := PySem.W.mg_of X G a_read_goals,
    F_Lmix := F_Lmix,
    b_Lmix := F_Lmix.binds (ps := ["_law_number", "_law_turn"]) fun _ _ _ _ _ _ us hl => match us, hl with | [_, _], _ => rfl,
    m_Lmix := PySem.W.mg_of X G a_Lmix,
    F_Lhand := F_Lhand,
    b_Lhand := F_Lhand.binds (ps := ["_law_script"]) fun _ _ _ _ _ _ us hl => match us, hl with | [_], _ => rfl,
    m_Lhand := PySem.W.mg_of X G a_Lhand,
    F_Ldraw := F_Ldraw,
    b_Ldraw := F_Ldraw.binds (ps := ["_law_hand_here", "_law_many"]) fun _ _ _ _ _ _ us hl => match us, hl with | [_, _], _ => rfl,
    m_Ldraw := PySem.W.mg_of X G a_Ldraw,
    F_Lwhole := F_Lwhole,
    b_Lwhole := F_Lwhole.binds (ps := ["_law_thing"]) fun _ _ _ _ _ _ us hl => match us, hl with | [_], _ => rfl,
    m_Lwhole := PySem.W.mg_of X G a_Lwhole,
    F_Lcouples := F_Lcouples,
    b_Lcouples := F_Lcouples.binds (ps := ["_law_sides"]) fun _ _ _ _ _ _ us hl => match us, hl with | [_], _ => rfl,
    m_Lcouples := PySem.W.mg_of X G a_Lcouples,
    F_Lis := F_Lis,
    b_Lis := F_Lis.binds (ps := ["_law_thing", "_law_due"]) fun _ _ _ _ _ _ us hl => match us, hl with | [_, _], _ => rfl,
    m_Lis := PySem.W.mg_of X G a_Lis,
    F_Lwide_sides := F_Lwide_sides,
    b_Lwide_sides := F_Lwide_sides.binds (ps := ["_law_hand_here"]) fun _ _ _ _ _ _ us hl => match us, hl with | [_], _ => rfl,
    m_Lwide_sides := PySem.W.mg_of X G a_Lwide_sides,
    F_Lends := F_Lends,
    b_Lends := F_Lends.binds (ps := ["_law_hand_here", "_law_ladder"]) fun _ _ _ _ _ _ us hl => match us, hl with | [_, _], _ => rfl,
    m_Lends := PySem.W.mg_of X G a_Lends,
    F_Lneat := F_Lneat,
    b_Lneat := F_Lneat.binds (ps := ["_law_ends_here", "_law_ladder"]) fun _ _ _ _ _ _ us hl => match us, hl with | [_, _], _ => rfl,
    m_Lneat := PySem.W.mg_of X G a_Lneat,
    F_Lraw_wanted := F_Lraw_wanted,
    b_Lraw_wanted := F_Lraw_wanted.binds (ps := ["_law_hand_here", "_law_sides", "_law_ladder"]) fun _ _ _ _ _ _ us hl => match us, hl with | [_, _, _], _ => rfl,
    m_Lraw_wanted := PySem.W.mg_of X G a_Lraw_wanted,
    F_Lneat_wanted := F_Lneat_wanted,
    b_Lneat_wanted := F_Lneat_wanted.binds (ps := ["_law_lines", "_law_ladder"]) fun _ _ _ _ _ _ us hl => match us, hl with | [_, _], _ => rfl,
    m_Lneat_wanted := PySem.W.mg_of X G a_Lneat_wanted,
    F_Ltruths := F_Ltruths,
    b_Ltruths := F_Ltruths.binds (ps := ["_law_hand_here"]) fun _ _ _ _ _ _ us hl => match us, hl with | [_], _ => rfl,
    m_Ltruths := PySem.W.mg_of X G a_Ltruths,
    F_Lgoal_facts := F_Lgoal_facts,
    b_Lgoal_facts := F_Lgoal_facts.binds (ps := ["_law_goals", "_law_ladder", "_law_wanted", "_law_known"]) fun _ _ _ _ _ _ us hl => match us, hl with | [_, _, _, _], _ => rfl,
    m_Lgoal_facts := PySem.W.mg_of X G a_Lgoal_facts,
    F_Lread := F_Lread,
    b_Lread := F_Lread.binds (ps := ["_law_text_here"]) fun _ _ _ _ _ _ us hl => match us, hl with | [_], _ => rfl,
    m_Lread := PySem.W.mg_of X G a_Lread,
    F_Lyes := F_Lyes,
    b_Lyes := F_Lyes.binds (ps := ["_law_truth"]) fun _ _ _ _ _ _ us hl => match us, hl with | [_], _ => rfl,
    m_Lyes := PySem.W.mg_of X G a_Lyes,
    F_Ltext := F_Ltext,
    b_Ltext := F_Ltext.binds (ps := ["_law_ladder", "_law_sides", "_law_knows", "_law_wanted"]) fun _ _ _ _ _ _ us hl => match us, hl with | [_, _, _, _], _ => rfl,
    m_Ltext := PySem.W.mg_of X G a_Ltext,
    F_Lbent_top := F_Lbent_top,
    b_Lbent_top := F_Lbent_top.binds (ps := ["_law_hand_here", "_law_at", "_law_line"]) fun _ _ _ _ _ _ us hl => match us, hl with | [_, _, _], _ => rfl,
    m_Lbent_top := PySem.W.mg_of X G a_Lbent_top,
    F_Lbent_couple := F_Lbent_couple,
    b_Lbent_couple := F_Lbent_couple.binds (ps := ["_law_hand_here", "_law_couple", "_law_ends_here", "_law_ladder"]) fun _ _ _ _ _ _ us hl => match us, hl with | [_, _, _, _], _ => rfl,
    m_Lbent_couple := PySem.W.mg_of X G a_Lbent_couple,
    F_Lbent_right := F_Lbent_right,
    b_Lbent_right := F_Lbent_right.binds (ps := ["_law_hand_here", "_law_goal", "_law_lines"]) fun _ _ _ _ _ _ us hl => match us, hl with | [_, _, _], _ => rfl,
    m_Lbent_right := PySem.W.mg_of X G a_Lbent_right,
    F_law := F_law,
    b_law := F_law.binds (ps := ["_law_script"]) fun _ _ _ _ _ _ us hl => match us, hl with | [_], _ => rfl,
    m_law := PySem.W.mg_of X G a_law,
    m_CallError := PySem.W.mg_of X G a_CallError,
    e_CallError := ⟨x_CallError, k_CallError, b_CallError, t_CallError, i_CallError, s_CallError⟩,
    m_BadGoals := PySem.W.mg_of X G a_BadGoals,
    x_BadGoals := ⟨⟨⟨nm_BadGoals, qn_BadGoals, N_BadGoals, bs_BadGoals, _, sn_BadGoals, sb_BadGoals, ab_BadGoals, co_BadGoals, dd_BadGoals, m0_BadGoals, m1_BadGoals, m2_BadGoals, m3_BadGoals, m5_BadGoals, x_BadGoals, rfl⟩, sa_BadGoals, b_BadGoals, t_BadGoals, k_BadGoals⟩, a_BadGoalsu_initu, y_BadGoals, i_BadGoals, s_BadGoals, ⟨ga_BadGoals, gg_BadGoals, b_BadGoals, hd_BadGoals⟩⟩,
    n_BadGoals_what := n_BadGoals_what,
    m_BadText := PySem.W.mg_of X G a_BadText,
    x_BadText := ⟨⟨⟨nm_BadText, qn_BadText, N_BadText, bs_BadText, _, sn_BadText, sb_BadText, ab_BadText, co_BadText, dd_BadText, m0_BadText, m1_BadText, m2_BadText, m3_BadText, m5_BadText, x_BadText, rfl⟩, sa_BadText, b_BadText, t_BadText, k_BadText⟩, a_BadTextu_initu, y_BadText, i_BadText, s_BadText, ⟨ga_BadText, gg_BadText, b_BadText, hd_BadText⟩⟩,
    n_BadText_number := n_BadText_number,
    n_BadText_what := n_BadText_what,
    m_Goals := PySem.W.mg_of X G a_Goals,
    o_Goals := ⟨pg_Goals, hd_Goals, po_Goals, sa_Goals⟩,
    k_Goals := ⟨mk_Goals, a_Goalsu_initu, fn_Goalsu_initu, kp_Goals⟩,
    h_Goalsu_equ := ⟨a_Goalsu_equ, fn_Goalsu_equ, k_Goalsu_equ⟩,
    n_Goals_ladder := n_Goals_ladder,
    n_Goals_wanted := n_Goals_wanted,
    n_Goals_knows := n_Goals_knows,
    n_Goals_sides := n_Goals_sides,
    z_ValueError := PySem.W.mg_none_of X G z_ValueError,
    z_abs := PySem.W.mg_none_of X G z_abs,
    z_all := PySem.W.mg_none_of X G z_all,
    z_bool := PySem.W.mg_none_of X G z_bool,
    z_enumerate := PySem.W.mg_none_of X G z_enumerate,
    z_int := PySem.W.mg_none_of X G z_int,
    z_isinstance := PySem.W.mg_none_of X G z_isinstance,
    z_len := PySem.W.mg_none_of X G z_len,
    z_list := PySem.W.mg_none_of X G z_list,
    z_min := PySem.W.mg_none_of X G z_min,
    z_range := PySem.W.mg_none_of X G z_range,
    z_set := PySem.W.mg_none_of X G z_set,
    z_sorted := PySem.W.mg_none_of X G z_sorted,
    z_staticmethod := PySem.W.mg_none_of X G z_staticmethod,
    z_str := PySem.W.mg_none_of X G z_str,
    z_tuple := PySem.W.mg_none_of X G z_tuple,
    c_EAST := PySem.W.mg_of X G c_EAST,
    c_WEST := PySem.W.mg_of X G c_WEST,
    c_LADDER_MOST := PySem.W.mg_of X G c_LADDER_MOST,
    c_KINDS_MOST := PySem.W.mg_of X G c_KINDS_MOST,
    c_COUPLES_MOST := PySem.W.mg_of X G c_COUPLES_MOST,
    c_FIGURES := PySem.W.mg_of X G c_FIGURES,
    c_FIGURES_MOST := PySem.W.mg_of X G c_FIGURES_MOST,
    i_Goals_ca := zz_i_Goals_ca,
    i_Goals_cn := zz_i_Goals_cn,
    i_Goals_ct := zz_i_Goals_ct,
    i_Goals_cm := zz_i_Goals_cm,
    i_Goals_kt := zz_i_Goals_kt,
    i_Goals_nt := zz_i_Goals_nt,
    i_Goals_ne := zz_i_Goals_ne }
  exact ⟨T.d_law, fun s v => .of_eq rfl, fun base _ _ => ok_law T O⟩
end K07
open PySem PySem.W PyProof.Rows
set_option maxHeartbeats 0 in
theorem PySem.Challenge.cw_risingcalls_k07_whole_goals_read_exactly_holds : PySem.Challenge.rw_risingcalls_k07_whole_goals_read_exactly.Holds := by
  w_on; o_law; k_head; (case hw => w_witness2)
  k_fill
  refine L2.walk_of (l := PySem.Challenge.rw_risingcalls_k07_whole_goals_read_exactly) (n := 63) (k := 10) (x := "_law_script") (CX := fun _ => L2.CX0) (sp := fun w => K07.sp_law _) rfl (by decide) rfl ⟨rfl, by decide, by decide⟩ (fun w h Y => PySem.W.kIn_of Y) ?F (fun _ _ a ns hl _ hS => ⟨a, ns, rfl, hS, hl, fun _ => rfl⟩) (fun _ _ _ _ _ h => h)
  case F =>
    intro w mg fa h KX G hmg
    refine' K07.all_mk KX G hmg ?a_CallError ?a_BadGoals ?a_BadText ?a_Goals ?a_BadGoalsu_initu ?l_BadGoalsu_initu ?c_BadGoalsu_initu ?k_BadGoalsu_initu ?a_BadTextu_initu ?l_BadTextu_initu ?c_BadTextu_initu ?k_BadTextu_initu ?a_is_whole ?l_is_whole ?c_is_whole ?k_is_whole ?t_is_whole ?a_is_truth ?l_is_truth ?c_is_truth ?k_is_truth ?a_is_sequence ?l_is_sequence ?c_is_sequence ?k_is_sequence ?a_are_sides ?l_are_sides ?c_are_sides ?k_are_sides ?a_couples_of ?l_couples_of ?c_couples_of ?k_couples_of ?a_sides_of_lines ?l_sides_of_lines ?c_sides_of_lines ?k_sides_of_lines ?a_are_ends ?l_are_ends ?c_are_ends ?k_are_ends ?a_is_knowing ?l_is_knowing ?c_is_knowing ?k_is_knowing ?a_Goalsu_initu ?l_Goalsu_initu ?c_Goalsu_initu ?k_Goalsu_initu ?t_Goalsu_initu ?w0_Goalsu_initu_ ?a_Goalsu_equ ?l_Goalsu_equ ?c_Goalsu_equ ?k_Goalsu_equ ?a_yes_or_no ?l_yes_or_no ?c_yes_or_no ?k_yes_or_no ?a_goals_text ?l_goals_text ?c_goals_text ?k_goals_text ?a_number_from ?l_number_from ?c_number_from ?k_number_from ?a_end_from ?l_end_from ?c_end_from ?k_end_from ?a_numbers_from ?l_numbers_from ?c_numbers_from ?k_numbers_from ?a_words_behind ?l_words_behind ?c_words_behind ?k_words_behind ?a_numbers_behind ?l_numbers_behind ?c_numbers_behind ?k_numbers_behind ?a_read_ladder ?l_read_ladder ?c_read_ladder ?k_read_ladder ?a_read_sides ?l_read_sides ?c_read_sides ?k_read_sides ?a_read_truths ?l_read_truths ?c_read_truths ?k_read_truths ?a_read_ends ?l_read_ends ?c_read_ends ?k_read_ends ?a_read_goals ?l_read_goals ?c_read_goals ?k_read_goals ?a_Lmix ?l_Lmix ?c_Lmix ?k_Lmix ?a_Lhand ?l_Lhand ?c_Lhand ?k_Lhand ?a_Ldraw ?l_Ldraw ?c_Ldraw ?k_Ldraw ?a_Lwhole ?l_Lwhole ?c_Lwhole ?k_Lwhole ?a_Lcouples ?l_Lcouples ?c_Lcouples ?k_Lcouples ?a_Lis ?l_Lis ?c_Lis ?k_Lis ?a_Lwide_sides ?l_Lwide_sides ?c_Lwide_sides ?k_Lwide_sides ?a_Lends ?l_Lends ?c_Lends ?k_Lends ?a_Lneat ?l_Lneat ?c_Lneat ?k_Lneat ?a_Lraw_wanted ?l_Lraw_wanted ?c_Lraw_wanted ?k_Lraw_wanted ?a_Lneat_wanted ?l_Lneat_wanted ?c_Lneat_wanted ?k_Lneat_wanted ?a_Ltruths ?l_Ltruths ?c_Ltruths ?k_Ltruths ?a_Lgoal_facts ?l_Lgoal_facts ?c_Lgoal_facts ?k_Lgoal_facts ?a_Lread ?l_Lread ?c_Lread ?k_Lread ?a_Lyes ?l_Lyes ?c_Lyes ?k_Lyes ?a_Ltext ?l_Ltext ?c_Ltext ?k_Ltext ?a_Lbent_top ?l_Lbent_top ?c_Lbent_top ?k_Lbent_top ?a_Lbent_couple ?l_Lbent_couple ?c_Lbent_couple ?k_Lbent_couple ?a_Lbent_right ?l_Lbent_right ?c_Lbent_right ?k_Lbent_right ?a_law ?l_law ?c_law ?k_law ?k_CallError ?b_CallError ?t_CallError ?i_CallError ?s_CallError ?x_CallError ?k_BadGoals ?b_BadGoals ?t_BadGoals ?i_BadGoals ?s_BadGoals ?x_BadGoals ?sa_BadGoals ?ga_BadGoals ?gg_BadGoals ?hd_BadGoals ?y_BadGoals ?n_BadGoals_what ?k_BadText ?b_BadText ?t_BadText ?i_BadText ?s_BadText ?x_BadText ?sa_BadText ?ga_BadText ?gg_BadText ?hd_BadText ?y_BadText ?n_BadText_number ?n_BadText_what ?kp_Goals ?pg_Goals ?hd_Goals ?po_Goals ?sa_Goals ?mk_Goals ?fn_Goalsu_initu ?fn_Goalsu_equ ?n_Goals_ladder ?n_Goals_wanted ?n_Goals_knows ?n_Goals_sides ?z_ValueError ?z_abs ?z_all ?z_bool ?z_enumerate ?z_int ?z_isinstance ?z_len ?z_list ?z_min ?z_range ?z_set ?z_sorted ?z_staticmethod ?z_str ?z_tuple ?c_EAST ?c_WEST ?c_LADDER_MOST ?c_KINDS_MOST ?c_COUPLES_MOST ?c_FIGURES ?c_FIGURES_MOST ?zz_i_Goals_ca ?zz_i_Goals_cn ?zz_i_Goals_ct ?zz_i_Goals_cm ?zz_i_Goals_kt ?zz_i_Goals_nt ?zz_i_Goals_ne
    (case a_CallError => k_is)
    (case a_BadGoals => k_is)
    (case a_BadText => k_is)
    (case a_Goals => k_is)
    (case a_BadGoalsu_initu => k_is)
    (case l_BadGoalsu_initu => k_is)
    (case c_BadGoalsu_initu => k_is)
    (case k_BadGoalsu_initu => k_is)
    (case a_BadTextu_initu => k_is)
    (case l_BadTextu_initu => k_is)
    (case c_BadTextu_initu => k_is)
    (case k_BadTextu_initu => k_is)
    (case a_is_whole => k_is)
    (case l_is_whole => k_is)
    (case c_is_whole => k_is)
    (case k_is_whole => k_is)
    (case t_is_whole => k_is)
    (case a_is_truth => k_is)
    (case l_is_truth => k_is)
    (case c_is_truth => k_is)
    (case k_is_truth => k_is)
    (case a_is_sequence => k_is)
    (case l_is_sequence => k_is)
    (case c_is_sequence => k_is)
    (case k_is_sequence => k_is)
    (case a_are_sides => k_is)
    (case l_are_sides => k_is)
    (case c_are_sides => k_is)
    (case k_are_sides => k_is)
    (case a_couples_of => k_is)
    (case l_couples_of => k_is)
    (case c_couples_of => k_is)
    (case k_couples_of => k_is)
    (case a_sides_of_lines => k_is)
    (case l_sides_of_lines => k_is)
    (case c_sides_of_lines => k_is)
    (case k_sides_of_lines => k_is)
    (case a_are_ends => k_is)
    (case l_are_ends => k_is)
    (case c_are_ends => k_is)
    (case k_are_ends => k_is)
    (case a_is_knowing => k_is)
    (case l_is_knowing => k_is)
    (case c_is_knowing => k_is)
    (case k_is_knowing => k_is)
    (case a_Goalsu_initu => k_is)
    (case l_Goalsu_initu => k_is)
    (case c_Goalsu_initu => k_is)
    (case k_Goalsu_initu => k_is)
    (case t_Goalsu_initu => k_is)
    (case w0_Goalsu_initu_ => k_is)
    (case a_Goalsu_equ => k_is)
    (case l_Goalsu_equ => k_is)
    (case c_Goalsu_equ => k_is)
    (case k_Goalsu_equ => k_is)
    (case a_yes_or_no => k_is)
    (case l_yes_or_no => k_is)
    (case c_yes_or_no => k_is)
    (case k_yes_or_no => k_is)
    (case a_goals_text => k_is)
    (case l_goals_text => k_is)
    (case c_goals_text => k_is)
    (case k_goals_text => k_is)
    (case a_number_from => k_is)
    (case l_number_from => k_is)
    (case c_number_from => k_is)
    (case k_number_from => k_is)
    (case a_end_from => k_is)
    (case l_end_from => k_is)
    (case c_end_from => k_is)
    (case k_end_from => k_is)
    (case a_numbers_from => k_is)
    (case l_numbers_from => k_is)
    (case c_numbers_from => k_is)
    (case k_numbers_from => k_is)
    (case a_words_behind => k_is)
    (case l_words_behind => k_is)
    (case c_words_behind => k_is)
    (case k_words_behind => k_is)
    (case a_numbers_behind => k_is)
    (case l_numbers_behind => k_is)
    (case c_numbers_behind => k_is)
    (case k_numbers_behind => k_is)
    (case a_read_ladder => k_is)
    (case l_read_ladder => k_is)
    (case c_read_ladder => k_is)
    (case k_read_ladder => k_is)
    (case a_read_sides => k_is)
    (case l_read_sides => k_is)
    (case c_read_sides => k_is)
    (case k_read_sides => k_is)
    (case a_read_truths => k_is)
    (case l_read_truths => k_is)
    (case c_read_truths => k_is)
    (case k_read_truths => k_is)
    (case a_read_ends => k_is)
    (case l_read_ends => k_is)
    (case c_read_ends => k_is)
    (case k_read_ends => k_is)
    (case a_read_goals => k_is)
    (case l_read_goals => k_is)
    (case c_read_goals => k_is)
    (case k_read_goals => k_is)
    (case a_Lmix => k_is)
    (case l_Lmix => k_is)
    (case c_Lmix => k_is)
    (case k_Lmix => k_is)
    (case a_Lhand => k_is)
    (case l_Lhand => k_is)
    (case c_Lhand => k_is)
    (case k_Lhand => k_is)
    (case a_Ldraw => k_is)
    (case l_Ldraw => k_is)
    (case c_Ldraw => k_is)
    (case k_Ldraw => k_is)
    (case a_Lwhole => k_is)
    (case l_Lwhole => k_is)
    (case c_Lwhole => k_is)
    (case k_Lwhole => k_is)
    (case a_Lcouples => k_is)
    (case l_Lcouples => k_is)
    (case c_Lcouples => k_is)
    (case k_Lcouples => k_is)
    (case a_Lis => k_is)
    (case l_Lis => k_is)
    (case c_Lis => k_is)
    (case k_Lis => k_is)
    (case a_Lwide_sides => k_is)
    (case l_Lwide_sides => k_is)
    (case c_Lwide_sides => k_is)
    (case k_Lwide_sides => k_is)
    (case a_Lends => k_is)
    (case l_Lends => k_is)
    (case c_Lends => k_is)
    (case k_Lends => k_is)
    (case a_Lneat => k_is)
    (case l_Lneat => k_is)
    (case c_Lneat => k_is)
    (case k_Lneat => k_is)
    (case a_Lraw_wanted => k_is)
    (case l_Lraw_wanted => k_is)
    (case c_Lraw_wanted => k_is)
    (case k_Lraw_wanted => k_is)
    (case a_Lneat_wanted => k_is)
    (case l_Lneat_wanted => k_is)
    (case c_Lneat_wanted => k_is)
    (case k_Lneat_wanted => k_is)
    (case a_Ltruths => k_is)
    (case l_Ltruths => k_is)
    (case c_Ltruths => k_is)
    (case k_Ltruths => k_is)
    (case a_Lgoal_facts => k_is)
    (case l_Lgoal_facts => k_is)
    (case c_Lgoal_facts => k_is)
    (case k_Lgoal_facts => k_is)
    (case a_Lread => k_is)
    (case l_Lread => k_is)
    (case c_Lread => k_is)
    (case k_Lread => k_is)
    (case a_Lyes => k_is)
    (case l_Lyes => k_is)
    (case c_Lyes => k_is)
    (case k_Lyes => k_is)
    (case a_Ltext => k_is)
    (case l_Ltext => k_is)
    (case c_Ltext => k_is)
    (case k_Ltext => k_is)
    (case a_Lbent_top => k_is)
    (case l_Lbent_top => k_is)
    (case c_Lbent_top => k_is)
    (case k_Lbent_top => k_is)
    (case a_Lbent_couple => k_is)
    (case l_Lbent_couple => k_is)
    (case c_Lbent_couple => k_is)
    (case k_Lbent_couple => k_is)
    (case a_Lbent_right => k_is)
    (case l_Lbent_right => k_is)
    (case c_Lbent_right => k_is)
    (case k_Lbent_right => k_is)
    (case a_law => k_is)
    (case l_law => k_is)
    (case c_law => k_is)
    (case k_law => k_is)
    (case k_CallError => k_is)
    (case b_CallError => k_is)
    (case t_CallError => k_is)
    (case i_CallError => k_is)
    (case s_CallError => first | rfl | k_is)
    (case x_CallError => k_exc)
    (case k_BadGoals => k_is)
    (case b_BadGoals => k_is)
    (case t_BadGoals => k_is)
    (case i_BadGoals => k_is)
    (case s_BadGoals => first | rfl | k_is)
    (case x_BadGoals => k_is)
    (case sa_BadGoals => k_is)
    (case ga_BadGoals => k_is)
    (case gg_BadGoals => k_is)
    (case hd_BadGoals => k_is)
    (case y_BadGoals => k_is)
    (case n_BadGoals_what => k_is)
    (case k_BadText => k_is)
    (case b_BadText => k_is)
    (case t_BadText => k_is)
    (case i_BadText => k_is)
    (case s_BadText => first | rfl | k_is)
    (case x_BadText => k_is)
    (case sa_BadText => k_is)
    (case ga_BadText => k_is)
    (case gg_BadText => k_is)
    (case hd_BadText => k_is)
    (case y_BadText => k_is)
    (case n_BadText_number => k_is)
    (case n_BadText_what => k_is)
    (case kp_Goals => k_is)
    (case pg_Goals => k_is)
    (case hd_Goals => k_is)
    (case po_Goals => k_is)
    (case sa_Goals => k_is)
    (case mk_Goals => k_is)
    (case fn_Goalsu_initu => k_is)
    (case fn_Goalsu_equ => k_is)
    (case n_Goals_ladder => k_is)
    (case n_Goals_wanted => k_is)
    (case n_Goals_knows => k_is)
    (case n_Goals_sides => k_is)
    (case z_ValueError => k_is)
    (case z_abs => k_is)
    (case z_all => k_is)
    (case z_bool => k_is)
    (case z_enumerate => k_is)
    (case z_int => k_is)
    (case z_isinstance => k_is)
    (case z_len => k_is)
    (case z_list => k_is)
    (case z_min => k_is)
    (case z_range => k_is)
    (case z_set => k_is)
    (case z_sorted => k_is)
    (case z_staticmethod => k_is)
    (case z_str => k_is)
    (case z_tuple => k_is)
    (case c_EAST => k_is)
    (case c_WEST => k_is)
    (case c_LADDER_MOST => k_is)
    (case c_KINDS_MOST => k_is)
    (case c_COUPLES_MOST => k_is)
    (case c_FIGURES => k_is)
    (case c_FIGURES_MOST => k_is)
    (case zz_i_Goals_ca => k_is)
    (case zz_i_Goals_cn => k_is)
    (case zz_i_Goals_ct => k_is)
    (case zz_i_Goals_cm => k_is)
    (case zz_i_Goals_kt => first | rfl | kernel_rfl)
    (case zz_i_Goals_nt => k_is)
    (case zz_i_Goals_ne => k_is)

