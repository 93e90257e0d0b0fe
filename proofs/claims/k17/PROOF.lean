import PyProof.Rows.All
import Wide.All
import OpenK.AllK
import Wide.FinOn
import PyProof.EqAt
import PyProof.EqKinds
import PyProof.TupleCall
import HandS.ForMost
import HandS.ForExc
import HandS.Wide
import HandS.IsInst
import HandS.SortInts
import HandS.Strs
import HandS.SetFor
import HandS.Conv
import HandS.Small
import HandS.Defaults
import HandS.Walk
import HandS.Flow
import HandS.Codes
import HandS.ExcInit
import HandS.ExcField
import HandS.Style
import HandS.TryMany
import PySem.Challenge.RW_risingcalls_k17_whole_rules_made_and_rai
import HandS.SortKw
import KE.KMinKey
import HandS.Text
import HandS.Property
import HandS.TupAny
import HandS.MakeKw
import HandS.Zip
import HandS.OwnEq
import HandS.IsInst
import KE.KExcIs
import KE.GoesZip
import KE.GoesEnum
import KE.GoesMore
import KE.DataCmp
import PyProof.Draws
import PyProof.ReprRoads
import PyProof.ReprLen
set_option Elab.async false
set_option linter.all false
set_option maxRecDepth 100000
set_option maxHeartbeats 2000000

/-! ### my words for readings: one lemma a construct, by the head of the reading -/
namespace Jv
open PySem PySem.Spec PyProof.Rows L2
section
variable {K : PySem.W.Frag} {σ : L2.St} {H : Hp} {D : Ends} {t u : TS} {te ta tb tc : TE} {g : TG} {tt tu : TT} {tA : TA} {i : Nat} {v x y z : V} {Q : VK} {R : Bool → Hp → Prop}
theorem r_seq (h : t { D with nx := u D } σ H) : tSeq t u D σ H := h
theorem r_asg (h : te σ H fun x H1 => g x σ H1 D.nx) : tAsg te g D σ H := h
theorem r_gn {Q : L2.St → Hp → Prop} (h : Q (σ.set i (some v)) H) : gName i v σ H Q := h
theorem r_ret (h : te σ H D.rt) : tRet te D σ H := h
theorem r_retN (h : D.rt .non H) : tRetN D σ H := h
theorem r_drop (h : te σ H fun _ H1 => D.nx σ H1) : tDrop te D σ H := h
theorem r_if (h : tt σ H fun b H1 => if b = true then t D σ H1 else u D σ H1) : tIfS tt t u D σ H := h
theorem r_next (h : D.nx σ H) : tNext D σ H := h
theorem r_brk (h : D.bk σ H) : tBreak D σ H := h
theorem r_cont (h : D.ct σ H) : tCont D σ H := h
theorem r_var (h : σ[i]? = some (some v)) (q : Q v H) : tVar i σ H Q := ⟨v, h, q⟩
theorem r_c (q : Q v H) : tC v σ H Q := q
theorem r_op {r : R2} (h : ta σ H fun x H1 => tb σ H1 fun y H2 => r x y H2 Q) : tOp r ta tb σ H Q := h
theorem r_un {r : V → Hp → VK → Prop} (h : ta σ H fun x H1 => r x H1 Q) : tUn r ta σ H Q := h
theorem r_I {C : Int → Int → Prop} {f : Int → Int → V} {a b : Int} (c : C a b) (q : Q (f a b) H) : rI C f (.int a) (.int b) H Q := ⟨a, b, rfl, rfl, c, q⟩
theorem r_I0 {f : Int → Int → V} {a b : Int} (q : Q (f a b) H) : rI0 f (.int a) (.int b) H Q := ⟨a, b, rfl, rfl, q⟩
theorem r_U {f : Int → V} {a : Int} (q : Q (f a) H) : rU f (.int a) H Q := ⟨a, rfl, q⟩
theorem r_eq (s : scal x y = true) (q : Q (.bl (decide (x = y))) H) : rEq x y H Q := ⟨s, q⟩
theorem r_ne (s : scal x y = true) (q : Q (.bl (!decide (x = y))) H) : rNe x y H Q := ⟨s, q⟩
theorem r_test (h : te σ H fun x H1 => ∃ k, x = .bl k ∧ R k H1) : tTest te σ H R := h
theorem r_B (h : te σ H fun x H1 => ∃ k, x = .bl k ∧ R k H1) : tB te σ H R := h
theorem r_bl {b : Bool} {P : Bool → Prop} (q : P b) : ∃ k, V.bl b = .bl k ∧ P k := ⟨b, rfl, q⟩
theorem r_and (h : tt σ H fun c H1 => if c = true then tu σ H1 R else R false H1) : tAnd tt tu σ H R := h
theorem r_or (h : tt σ H fun c H1 => if c = true then R true H1 else tu σ H1 R) : tOr tt tu σ H R := h
theorem r_not (h : tt σ H fun c H1 => R (!c) H1) : tNot tt σ H R := h
theorem r_andV (h : ta σ H fun x H1 => ∃ c, x = .bl c ∧ if c = true then tb σ H1 Q else Q (.bl false) H1) : tAndV ta tb σ H Q := h
theorem r_orV (h : ta σ H fun x H1 => ∃ c, x = .bl c ∧ if c = true then Q (.bl true) H1 else tb σ H1 Q) : tOrV ta tb σ H Q := h
theorem r_notV (h : ta σ H fun x H1 => ∃ c, x = .bl c ∧ Q (.bl (!c)) H1) : tNotV ta σ H Q := h
theorem r_ife (h : tt σ H fun c H1 => if c = true then ta σ H1 Q else tb σ H1 Q) : tIf tt ta tb σ H Q := h
theorem r_chain {r r' : R2} (h : ta σ H fun x H1 => tb σ H1 fun y H2 => r x y H2 fun z H3 => ∃ k, z = .bl k ∧
  (if k = true then tc σ H3 fun w' H4 => r' y w' H4 Q else Q (.bl false) H3)) : tChain r r' ta tb tc σ H Q := h
theorem r_nil {P : List V → Hp → Prop} (q : P [] H) : tNil σ H P := q
theorem r_cons {P : List V → Hp → Prop} (h : ta σ H fun x H1 => tA σ H1 fun xs H2 => P (x :: xs) H2) : tCons ta tA σ H P := h
theorem r_tup (h : tA σ H fun xs H1 => xs.length ≤ sizeLine ∧ ∀ p, H1 p = none → Q (.ref p) (upd H1 p (.tup xs))) : tTup tA σ H Q := h
theorem r_lst (h : tA σ H fun xs H1 => xs.length ≤ sizeLine ∧ ∀ p, H1 p = none → Q (.ref p) (upd H1 p (.lst xs))) : tLst tA σ H Q := h
theorem r_new {n : Nat} {P : Prop} (h1 : n ≤ 1000) (q : P) : n ≤ sizeLine ∧ P := ⟨Nat.le_trans h1 (by decide), q⟩
theorem r_CB {r : List V → Hp → VK → Prop} (h : tA σ H fun vs H1 => r vs H1 Q) : tCB r tA σ H Q := h
theorem r_call {sp : Sp} {dvs : List V} {E : XK} (h : tA σ H fun vs H1 => sp (vs ++ dvs) H1 Q E) : tCall sp dvs E tA σ H Q := h
theorem r_callS {sp : Sp} {E : L2.St → XK} (h : tA σ H fun vs H1 => sp vs H1 Q (E σ)) : tCallS sp E tA σ H Q := h
theorem r_for {wi : TI} (h : wi σ H fun J H1 => ∃ W : Nat → Nat → L2.St → Hp → Prop, (∃ m, W 0 m σ H1) ∧ ∀ i m σ H, W i m σ H →
  (J.stop i H ∧ D.nx σ H) ∨ (J.go i H ∧ ∃ N : L2.St → Hp → Prop, (∀ σ' H', N σ' H' → ∃ m', m' < m ∧ W (i + 1) m' σ' H') ∧ ∀ x H', J.yld i H x H' → g x σ H' fun σ2 H2 => t { D with nx := N, ct := N, bk := D.nx } σ2 H2)) : tFor wi g t D σ H := h
theorem r_iR1 {P : It → Hp → Prop} (h : tA σ H fun vs H1 => ∃ j : Int, vs = [.int j] ∧ -(2 ^ 62) ≤ j ∧ j < 2 ^ 62 ∧ P (Itr 0 j.toNat) H1) : iRng1 tA σ H P := h
theorem r_iR2 {P : It → Hp → Prop} (h : tA σ H fun vs H1 => ∃ i j : Int, vs = [.int i, .int j] ∧ (-(2 ^ 62) ≤ i ∧ i < 2 ^ 62 ∧ -(2 ^ 62) ≤ j ∧ j < 2 ^ 62) ∧ P (Itr i (j - i).toNat) H1) : iRng2 tA σ H P := h
theorem r_sub {to ti : TE} {w : TSet} {Q : L2.St → Hp → Prop} (h : to σ H fun o H1 => ti σ H1 fun i H2 => w o i v H2 fun H3 => Q σ H3) : gSub to ti w v σ H Q := h
theorem r_ixL {p : Addr} {xs : List V} {k : Int} (h : SqL K H p xs) (e : atI xs k = some v) (q : Q v H) : rIxL K (.ref p) (.int k) H Q := ⟨p, xs, k, v, rfl, rfl, h, e, q⟩
theorem r_ixT {p : Addr} {xs : List V} {k : Int} (h : SqT K H p xs) (e : atI xs k = some v) (q : Q v H) : rIxT K (.ref p) (.int k) H Q := ⟨p, xs, k, v, rfl, rfl, h, e, q⟩
theorem r_setL {p : Addr} {xs : List V} {k : Int} {j : Nat} {P : Hp → Prop} (h : H p = some (.lst xs)) (e : ixN xs.length k = some j) (q : P (upd H p (.lst (xs.set j v)))) : rSetL (.ref p) (.int k) v H P := ⟨p, xs, k, j, rfl, rfl, h, e, q⟩
theorem r_true {A B : Prop} {c : Bool} (e : c = true) (h : A) : if c = true then A else B := by rw [if_pos e]; exact h
theorem r_false {A B : Prop} {c : Bool} (e : c = false) (h : B) : if c = true then A else B := by rw [e, if_neg Bool.false_ne_true]; exact h
theorem r_dec {A B p : Prop} {_ : Decidable p} (h1 : p → A) (h2 : ¬ p → B) : if decide p = true then A else B := by
  by_cases h : p
  · exact r_true (decide_eq_true h) (h1 h)
  · exact r_false (decide_eq_false h) (h2 h)
theorem r_ndec {A B p : Prop} {_ : Decidable p} (h1 : ¬ p → A) (h2 : p → B) : if (!decide p) = true then A else B := by
  by_cases h : p
  · exact r_false (by rw [decide_eq_true h]; rfl) (h2 h)
  · exact r_true (by rw [decide_eq_false h]; rfl) (h1 h)
theorem r_bool {A B : Prop} {c : Bool} (h1 : c = true → A) (h2 : c = false → B) : if c = true then A else B := by
  cases c
  · exact r_false rfl (h2 rfl)
  · exact r_true rfl (h1 rfl)
theorem r_int {a : Int} {P : Int → Prop} {P' : Bool → Prop} (q : P a) : (∃ i, [V.int a] = [.int i] ∧ P i) ∨ ∃ k, [V.int a] = [.bl k] ∧ P' k := .inl ⟨a, rfl, q⟩
theorem small_of {n : Nat} (h : n ≤ 1000) : n ≤ sizeLine := Nat.le_trans h (by decide)
theorem small_lt {n : Nat} (h : n < 1000) : n < sizeLine := Nat.lt_of_lt_of_le h (by decide)
/-- what stands ahead of a new object, stands behind it -/
theorem kp {a p : Addr} {o u : HO} (h : H a = some o) (n : H p = none) : upd H p u a = some o := by rw [upd_ne (ne_of_none h n)]; exact h
theorem kpO {a l : Addr} {o u : HO} (h : H a = some o) (n : a ≠ l) : upd H l u a = some o := by rw [upd_ne n]; exact h
theorem same_new {p : Addr} {u : HO} (n : H p = none) : Same H (upd H p u) := fun _ _ e => kp e n
theorem Same.sqT {H' : Hp} {a : Addr} {xs : List V} (e : Same H H') (h : SqT K H a xs) : SqT K H' a xs := by
  rcases h with (h | ⟨o, h⟩) | h
  · exact .inl (.inl (e _ _ h))
  · exact .inl (.inr ⟨o, e _ _ h⟩)
  · exact .inr h
end
end Jv

/-! ### rules that the layer lacks: set(x), sorted(x) of a list or a tuple of ints; X() of an own exception; what the top says of exceptions -/
namespace JvS
open PySem PySem.Spec PyProof.Rows L2 SrtO
section
variable {P : Program} {w : World} {A : Around} {E : Value → Shared → Prop} {s : Shared}
/-- the empty set that set() begins with -/
abbrev emptyS (w : World) : Obj := { cls := .type "set", dict := none, data := .set #[] 0 (.fresh 0 0 (!w.params.followText "set-order")) }
theorem set_listI {l : Addr} {items : Array Value} (ns : List Int) {Q : Value → Shared → Prop} (hh : A.handled = none) (hl : s.heap.IsList l items) (hv : IntsAre items.toList ns) (few : ns.length + 1 < scanBound)
    (h : ∀ (h' : Heap) (tk c : Nat), SetR w h' s.heap.objs.size (fun j => decide (j ∈ ns)) c → c ≤ ns.length → (∀ b o, s.heap.get? b = some o → h'.get? b = some o) → Q (.ref s.heap.objs.size) { s with heap := h', toks := tk }) :
    wpAny (model P w) A (call (.type "set") [.ref l]) Q E s := by
  have sz : items.size = ns.length := by simpa using IntsAre.length hv
  obtain ⟨cM, tM, eM⟩ := F.called_set.mro
  have e1 := F.called_set.made; have e2 := F.called_set.sub; have e3 := F.called_set.notType; have e4 := F.called_set.canCreate; have e5 := F.typeCall_set_1 (.ref l)
  refine wpAny_call (codeAny_of_tree (show wpAny _ _ (callAny (.type "set") _) _ _ _ from wpAny_pure ⟨Code.quiet_builtin _ (by decide +kernel), codeAny_builtin F.entry_type_call ?_⟩))
  rw [Around.under_plain (weight_type_call_type "set" [.ref l] []) rfl]
  repeat any_goals (first | wp_step | assumption)
  refine codeAny_mono (code_set_led1 (P := P) (.ref l) (E := E) (Q₁ := fun v s1 => v = .ref s.heap.objs.size ∧ s1 = { s with heap := s.heap.push (emptyS w) }) ⟨rfl, rfl⟩) fun r s1 hr => ?_
  cases r with
  | error e => exact hr
  | ok fl =>
    cases fl with
    | next => exact hr.elim
    | brk => exact hr.elim
    | cont => exact hr.elim
    | ret v =>
      obtain ⟨rfl, rfl⟩ := hr
      have atS : (s.heap.push (emptyS w)).get? s.heap.objs.size = some (emptyS w) := Heap.get?_push_size _ rfl
      have tyS : Shared.TypeIs { s with heap := s.heap.push (emptyS w) } (.ref s.heap.objs.size) "set" := ⟨_, atS, rfl⟩
      have e6 := F.called_set.init.lookup; have e7 := F.called_set.init.bind (.ref s.heap.objs.size)
      repeat any_goals (first | wp_step | assumption)
      refine codeAny_mono (codeAny_call_builtin (R := wants (fun r s2 => r = .none ∧ ∃ h' tk c, s2 = { s with heap := h', toks := tk } ∧ SetR w h' s.heap.objs.size (fun j => decide (j ∈ ns)) c ∧ c ≤ ns.length ∧
        ∀ b o, s.heap.get? b = some o → h'.get? b = some o) E) F.called_set.init.plain F.entry_set_init (check_set_init_1 tyS ?_)) fun r2 s2 hr2 => ?_
      · have old : ∀ b o, s.heap.get? b = some o → (s.heap.push (emptyS w)).get? b = some o := fun b o q => Heap.get?_push_of_some _ q
        have lS : l < s.heap.objs.size := by obtain ⟨o, q, _⟩ := hl; exact Heap.lt_size q
        obtain ⟨⟨oc, od, dt, sl⟩, ol, q1, n1, q2⟩ := hl
        simp only at q1 q2; subst q1 q2
        have ol2 := old _ _ ol
        have isl : (s.heap.push (emptyS w)).IsList l items := ⟨_, ol2, rfl, n1, rfl⟩
        have b1 := F.sub_list_set; have b2 := F.sub_list_frozenset; have b3 : (Value.type "list" == Value.type "dict") = false := by decide
        unfold Builtin.«set.__init__» noKeywords Builtin.Frozenset.updateFrom
        generalize walkIt : pyIter = PI
        wp_walk
        subst walkIt
        refine wpAny_pyIter_list isl (wpAny_bind (wpAny_runValue ?_))
        have more : (s.heap.push (emptyS w)).objs.size = s.heap.objs.size + 1 := Heap.size_push ..
        have hh3 : A.in1.in1.in1.handled = none := by simp [hh]
        have lI : l ≠ (s.heap.push (emptyS w)).objs.size := by rw [more]; exact Nat.ne_of_lt (Nat.lt_succ_of_lt lS)
        have nS : s.heap.objs.size ∉ [(s.heap.push (emptyS w)).objs.size, l] := by
          rw [more]; simp only [List.mem_cons, List.not_mem_nil, or_false, not_or]
          exact ⟨Nat.ne_of_lt (Nat.lt_succ_self _), Nat.ne_of_gt lS⟩
        refine set_update_ints ((Walks.list hh3 _ l lI items).toS) s.heap.objs.size nS ns sz few (fun i v q => ?_) (items.size - 0) 0 _ (by omega) (Nat.zero_le _) ⟨⟨_, Heap.get?_push_size _ rfl, rfl, rfl⟩, isl.push _⟩ ⟨0, Nat.le_refl 0, setR_new_at (Heap.get?_push_of_some _ atS)⟩ fun s3 c hm hc hS => ?_
        · have hi : i < ns.length := by rw [← sz]; exact (Array.getElem?_eq_some_iff.mp q).1
          obtain ⟨t, e⟩ := PyProof.Rows.IntsAre.int_at hv i v (by rw [Array.getElem?_toList]; exact q)
          exact ⟨ns[i], t, List.getElem?_eq_getElem hi, by rw [e, List.getD_eq_getElem?_getD, List.getElem?_eq_getElem hi]; rfl⟩
        · obtain ⟨h3, g3, d3, t3, o3⟩ := s3
          obtain rfl : g3 = s.gens := hm.gens
          obtain rfl : d3 = s.drawn := hm.drawn
          obtain rfl : o3 = s.os := hm.os
          rw [sz] at hc
          refine wpAny_pure (show wpAny _ _ (ret Value.none) _ _ _ from wpAny_pure ⟨rfl, h3, t3, c, rfl, hS, hc, fun b o e => ?_⟩)
          have lb : b < s.heap.objs.size := Heap.lt_size e
          exact hm.heap b o (by
            rw [more]; simp only [List.mem_cons, List.not_mem_nil, or_false, not_or]
            exact ⟨Nat.ne_of_lt lb, Nat.ne_of_lt (Nat.lt_succ_of_lt lb)⟩) (Heap.get?_push_of_some _ (old _ _ e))
      · cases r2 with
        | error e => exact hr2
        | ok f2 =>
          cases f2 with
          | next => exact hr2.elim
          | brk => exact hr2.elim
          | cont => exact hr2.elim
          | ret r =>
            obtain ⟨rfl, h', tk, c, rfl, hS, hc, keep⟩ := hr2
            repeat any_goals (first | wp_step | assumption)
            exact h _ _ _ hS hc keep
end
end JvS
namespace Jv
open PySem PySem.Spec PyProof.Rows L2
section
variable {X : Cx}
/-- set(x), x a list or a tuple of ints -/
def rSetI (K : PySem.W.Frag) (w : World) : List V → Hp → VK → Prop := fun xs H Q => ∃ (l : Addr) (ns : List Int), xs = [.ref l] ∧ (SqL K H l (ns.map V.int) ∨ SqT K H l (ns.map V.int)) ∧ ns.length ≤ 1000 ∧
  ∀ p c, H p = none → c ≤ ns.length → Q (.ref p) (upd H p (SetO w p (fun j => decide (j ∈ ns)) c))
theorem cr_setI (hc : X.calm = true) : CallR X (.type "set") (rSetI X.K X.w) := by
  intro pins s σ H xs us Q I r h
  obtain ⟨l, ns, rfl, hs, few, q⟩ := h
  rw [Vals.ref1 r]
  have fin : ∀ (h' : Heap) (tk c : Nat), SetR X.w h' s.heap.objs.size (fun j => decide (j ∈ ns)) c → c ≤ ns.length → (∀ b o, s.heap.get? b = some o → h'.get? b = some o) →
      EP X pins σ Q (.ref s.heap.objs.size) { s with heap := h', toks := tk } := fun h' tk c R hcn keep =>
    ⟨.ref s.heap.objs.size, upd H s.heap.objs.size (SetO X.w s.heap.objs.size (fun j => decide (j ∈ ns)) c), I.laid (t' := tk) keep (Nat.le_refl _) (setO_new R), rfl, q _ c (I.hok.fresh (Nat.le_refl _)) hcn⟩
  rcases hs with hs | hs
  · obtain ⟨its, rv, hl, hz⟩ := I.list hs
    exact JvS.set_listI ns (I.ok.hd hc) hl.isList (by simpa using ints_of_vals rv) (by unfold scanBound; omega) fin
  · obtain ⟨its, rv, ht, hz⟩ := I.tuple hs
    exact call_set_tupI ns (I.ok.hd hc) (show s.heap.IsTuple l its.toArray from ht) (by simpa using ints_of_vals rv) (by unfold scanBound; omega) fin
/-- either of two rules for a call -/
theorem crOr {f : Value} {r r' : List V → Hp → VK → Prop} (h : CallR X f r) (h' : CallR X f r') : CallR X f (fun xs H Q => r xs H Q ∨ r' xs H Q) := fun pins s σ H xs us Q I rv q =>
  q.elim (fun q => h pins s σ H xs us Q I rv q) fun q => h' pins s σ H xs us Q I rv q
end
/-- an own error class without an __init__ of its own -/
structure ExcP (K : PySem.W.Frag) (C : Addr) : Prop where
  x : PySem.W.excIn K C [.type "ValueError", .type "Exception", .type "BaseException", .type "object"] "ValueError.__new__" = true
  k : PySem.W.keepIn K (.ref C) = true
  b : PySem.W.subIn K (.ref C) (.type "BaseException") = some true
  t : PySem.W.typeIn K (.ref C) = some (.type "type")
  i : PySem.W.isClsIn K C = true
  s : PySem.W.subIn K (.ref C) (.ref C) = some true
theorem exm_of {K : PySem.W.Frag} {C : Addr} (b : PySem.W.subIn K (.ref C) (.type "BaseException") = some true) (i : PySem.W.isClsIn K C = true) (t : PySem.W.typeIn K (.ref C) = some (.type "type")) (s : PySem.W.subIn K (.ref C) (.ref C) = some true) :
    PySem.W.exmOne K (.ref C) (.ref C) = some true := by
  have i' : (PySem.W.clsIn K C).isSome = true := i
  unfold PySem.W.exmOne PySem.W.kitCls
  simp [b, i', t, s]
theorem ExcP.e {K : PySem.W.Frag} {C : Addr} (h : ExcP K C) : PySem.W.exmOne K (.ref C) (.ref C) = some true := exm_of h.b h.i h.t h.s
theorem ExcP.raises {X : Cx} {C : Addr} (h : ExcP X.K C) : Raises X (.ref C) := raises_own h.b h.t
/-- .. with one, at fI -/
structure ExcI (K : PySem.W.Frag) (C fI : Addr) : Prop where
  o : OexC K C
  n : PySem.W.findIn K (.ref C) "__init__" = some (some (.ref fI))
  y : PySem.W.typeIn K (.ref fI) = some (.type "function")
  i : PySem.W.isClsIn K C = true
  s : PySem.W.subIn K (.ref C) (.ref C) = some true
  f : XfC K C
theorem ExcI.e {K : PySem.W.Frag} {C fI : Addr} (h : ExcI K C fI) : PySem.W.exmOne K (.ref C) (.ref C) = some true := exm_of h.o.exC h.i h.o.tyC h.s
section
variable {X : Cx}
/-- X() -/
theorem pmk_own0 {C : Addr} {bmB : List Value} {B newId initId : String} {x : Str} {p pos : Pos} (F : ExcBaseFacts B newId initId bmB) (q : PySem.W.excIn X.K C bmB newId = true) (gC : X.mg x = some (.ref C))
    (kC : PySem.W.keepIn X.K (.ref C) = true) (r : Raises X (.ref C)) (hg : Gl X x) (hdb : (x == ("__debug__" : Str)) = false := by decide) : PMk X (.Call (.Name x p) [] [] pos) (fun _ H Q => Q (.ref C) none H) := by
  intro pins s σ H Q I h
  refine wpAny_Call_Name_kw (ld_glob I hg gC (PySem.W.callWith_K0 I.kIn kC ?_) hdb)
  obtain ⟨bm, N, nm, qn, bs, hdct, sn, sub, ab, col, dd, k0, k1, k2, k3, k5, mN, hC, hN, hni, T⟩ := exc_obj I.kIn q
  exact wpAny_call_exc_subT F T hC hN hni (fun h' e hm => mk_of I hm r h (I.hok.gone hm.new)) (Nat.zero_le _)
end
end Jv

/-! ### binding with defaults -/
namespace Jv
open PySem PySem.Spec PyProof.Rows L2
section
variable {K : PySem.W.Frag} {fd : FuncData} {ps : List Str} {T : Addr} {o : Obj} {its : Array Value} {n : Nat}
theorem bindsD {ds : List Value} {m : Nat} (l : K.lookup T = some o) (hd : o.data = .seq its n) (hm : m + ds.length = ps.length)
    (h : ∀ us : List Value, us.length = m → ∃ k, bindArgs fd ⟨us, []⟩ = seqItems? (.ref T) >>= k ∧ k (some its) = pure (ps.zip (us ++ ds))) : Binds K fd ps ds := fun s us X hl => by
  obtain ⟨k, e1, e2⟩ := h us (by rw [List.length_append] at hl; omega)
  refine BindsTo.of_looks fun M => ?_
  rw [e1]
  exact looks_items X l hd (.of_pure e2)
theorem kbD {m : Nat} {ks : List Str} {g : List Value → List Value → List Value} {gV : List V → List V → List V} (l : K.lookup T = some o) (hd : o.data = .seq its n)
    (h : ∀ us ws : List Value, us.length = m → ws.length = ks.length → ∃ k, bindArgs fd ⟨us, ks.zip ws⟩ = seqItems? (.ref T) >>= k ∧ k (some its) = pure (ps.zip (g us ws)))
    (rel : ∀ {vs : List V} {us : List Value} {zs : List V} {ws : List Value}, Vals vs us → Vals zs ws → Vals (gV vs zs) (g us ws)) : KBn K fd ps m ks g gV := by
  refine ⟨fun s us ws X h1 h2 => ?_, rel⟩
  obtain ⟨k, e1, e2⟩ := h us ws h1 h2
  refine BindsTo.of_looks fun M => ?_
  rw [e1]
  exact looks_items X l hd (.of_pure e2)
end
end Jv
namespace Jv
open PySem PySem.Spec PyProof.Rows L2
section
variable {K : PySem.W.Frag} {σ : L2.St} {H : Hp} {D : Ends} {t u : TS} {te ta tb tc : TE} {g : TG} {tt tu : TT} {tA : TA} {i : Nat} {v x y z : V} {Q : VK} {R : Bool → Hp → Prop}
theorem r_gtup {T : Addr} {xs : List V} {n : Nat} {gs : TGs} {Q : L2.St → Hp → Prop} (h : SqT K H T xs) (hl : xs.length = n) (q : gs xs σ H Q) : gTup K n gs (.ref T) σ H Q := ⟨T, xs, rfl, h, hl, q⟩
theorem r_gcons {gs : TGs} {xs : List V} {Q : L2.St → Hp → Prop} (q : g v σ H fun σ' H' => gs xs σ' H' Q) : gCons g gs (v :: xs) σ H Q := ⟨v, xs, rfl, q⟩
theorem r_gnil {Q : L2.St → Hp → Prop} (q : Q σ H) : gNil [] σ H Q := ⟨rfl, q⟩
theorem r_lc {wi : TI} {vs : List Nat} (h : wi σ H fun J H1 => ∀ D, H1 D = none → ∃ W : Nat → Nat → Hp → Prop, (∃ m, W 0 m (upd H1 D (.lst []))) ∧ ∀ i m H, W i m H →
  (J.stop i H ∧ Q (.ref D) H) ∨ (J.go i H ∧ ∃ Nx : Hp → Prop, (∀ H', Nx H' → ∃ m', m' < m ∧ W (i + 1) m' H') ∧ ∀ x H', J.yld i H x H' → g x (wipe σ vs) H' fun σ2 H2 => wipe σ2 vs = wipe σ vs ∧ tt σ2 H2 fun b H3 =>
    if b = true then te σ2 H3 fun y H4 => ∃ acc, H4 D = some (.lst acc) ∧ acc.length < sizeLine ∧ Nx (upd H4 D (.lst (acc ++ [y]))) else Nx H3)) : tLc wi g tt te vs σ H Q := h
theorem r_iE {P : It → Hp → Prop} {a : Addr} {xs : List V} (h : SqL K H a xs) (q : P (Ite K a) H) : ∃ b ys, [V.ref a] = [.ref b] ∧ SqL K H b ys ∧ P (Ite K b) H := ⟨a, xs, rfl, h, q⟩
theorem r_iEn {P : It → Hp → Prop} (h : tA σ H fun vs H1 => ∃ b ys, vs = [.ref b] ∧ SqL K H1 b ys ∧ P (Ite K b) H1) : iEnum K tA σ H P := h
theorem r_iL {P : It → Hp → Prop} (h : te σ H fun x H1 => ∃ a, x = .ref a ∧ (∃ xs, SqL K H1 a xs) ∧ P (Itl K a) H1) : iList K te σ H P := h
theorem r_iT {P : It → Hp → Prop} (h : te σ H fun x H1 => ∃ a, x = .ref a ∧ (∃ xs, SqT K H1 a xs) ∧ P (Itt K a) H1) : iTup K te σ H P := h
theorem r_yes (q : R true H) : tYes σ H R := q
theorem r_abs {a : Int} {P : Int → Prop} (q : P (if a < 0 then -a else a)) : ∃ i, [V.int a] = [.int i] ∧ P (if i < 0 then -i else i) := ⟨a, rfl, q⟩
theorem r_ift {A B : Prop} (h : A) : if true = true then A else B := by rw [if_pos rfl]; exact h
theorem r_iff {A B : Prop} (h : B) : if false = true then A else B := by rw [if_neg Bool.false_ne_true]; exact h
end
end Jv
namespace Jv
open PySem PySem.Spec PyProof.Rows L2
section
variable {K : PySem.W.Frag} {H H' : Hp} {a p l : Addr} {xs : List V} {o u : HO}
theorem sqL_new (h : SqL K H a xs) (n : H p = none) : SqL K (upd H p u) a xs := (same_new n).seq h
theorem sqT_new (h : SqT K H a xs) (n : H p = none) : SqT K (upd H p u) a xs := Jv.Same.sqT (same_new n) h
theorem sqL_at (h : H a = some (.lst xs)) : SqL K H a xs := .inl (.inl h)
theorem sqT_at (h : H a = some (.tup xs)) : SqT K H a xs := .inl (.inl h)
theorem map_at {f : Int → V} {ns : List Int} {i : Nat} {x : V} (h : (ns.map f)[i]? = some x) : ∃ z, ns[i]? = some z ∧ x = f z := by
  rw [List.getElem?_map] at h
  cases e : ns[i]? with
  | none => rw [e] at h; cases h
  | some z => rw [e] at h; exact ⟨z, rfl, (Option.some.inj h).symm⟩
end
end Jv
namespace Jv
open PySem PySem.Spec PyProof.Rows L2
theorem r_wipe {σ1 σ2 : L2.St} {vs : List Nat} {P : Prop} (e : wipe σ1 vs = wipe σ2 vs) (q : P) : wipe σ1 vs = wipe σ2 vs ∧ P := ⟨e, q⟩
end Jv
namespace Jv
open PySem PySem.Spec PyProof.Rows L2
section
variable {K : PySem.W.Frag} {H : Hp}
def rLenK (K : PySem.W.Frag) : List V → Hp → VK → Prop := fun xs H Q => ∃ x n, xs = [x] ∧ LenV K x H n ∧ Q (.int n) H
theorem cr_len {X : Cx} : CallR X (.builtin "len") (rLenK X.K) := call_len
def rAbs : List V → Hp → VK → Prop := fun xs H Q => ∃ i, xs = [.int i] ∧ Q (.int (if i < 0 then -i else i)) H
theorem cr_abs {X : Cx} : CallR X (.builtin "abs") rAbs := call_abs
def rMin2 : List V → Hp → VK → Prop := fun xs H Q => ∃ i j, xs = [.int i, .int j] ∧ Q (.int (if j < i then j else i)) H
def rMax2 : List V → Hp → VK → Prop := fun xs H Q => ∃ i j, xs = [.int i, .int j] ∧ Q (.int (if j > i then j else i)) H
def rInt : List V → Hp → VK → Prop := fun xs H Q => (∃ i, xs = [.int i] ∧ Q (.int i) H) ∨ ∃ k, xs = [.bl k] ∧ Q (.int (if k then 1 else 0)) H
theorem cr_int {X : Cx} : CallR X (.type "int") rInt := call_int1
def rListOf (K : PySem.W.Frag) : List V → Hp → VK → Prop := fun xs H Q => ∃ p ys, xs = [.ref p] ∧ (SqL K H p ys ∨ SqT K H p ys) ∧ ∀ l, H l = none → Q (.ref l) (upd H l (.lst ys))
def rTupOf (K : PySem.W.Frag) : List V → Hp → VK → Prop := fun xs H Q => ∃ p ys, xs = [.ref p] ∧ ((SqL K H p ys ∧ ∀ l, H l = none → Q (.ref l) (upd H l (.tup ys))) ∨ (SqT K H p ys ∧ Q (.ref p) H))
section
variable {Q : VK}
theorem r_len {p : Addr} {xs : List V} (h : SqL K H p xs ∨ SqT K H p xs) (q : Q (.int xs.length) H) : rLenK K [V.ref p] H Q := ⟨_, xs.length, rfl, by
  rcases h with h | h
  · exact .inl ⟨xs, h, rfl⟩
  · exact .inr ⟨xs, h, rfl⟩, q⟩
theorem r_absN {a : Int} (q : Q (.int (if a < 0 then -a else a)) H) : rAbs [.int a] H Q := ⟨a, rfl, q⟩
theorem r_min {a b : Int} (q : Q (.int (if b < a then b else a)) H) : rMin2 [.int a, .int b] H Q := ⟨a, b, rfl, q⟩
theorem r_max {a b : Int} (q : Q (.int (if b > a then b else a)) H) : rMax2 [.int a, .int b] H Q := ⟨a, b, rfl, q⟩
theorem r_intN {a : Int} (q : Q (.int a) H) : rInt [.int a] H Q := .inl ⟨a, rfl, q⟩
theorem r_listOf {p : Addr} {ys : List V} (h : SqL K H p ys ∨ SqT K H p ys) (q : ∀ l, H l = none → Q (.ref l) (upd H l (.lst ys))) : rListOf K [.ref p] H Q := ⟨p, ys, rfl, h, q⟩
theorem r_tupOfL {p : Addr} {ys : List V} (h : SqL K H p ys) (q : ∀ l, H l = none → Q (.ref l) (upd H l (.tup ys))) : rTupOf K [.ref p] H Q := ⟨p, ys, rfl, .inl ⟨h, q⟩⟩
theorem r_tupOfT {p : Addr} {ys : List V} (h : SqT K H p ys) (q : Q (.ref p) H) : rTupOf K [.ref p] H Q := ⟨p, ys, rfl, .inr ⟨h, q⟩⟩
end
theorem r_decI {A B : Prop} {a b : Int} (h1 : a = b → A) (h2 : a ≠ b → B) : if decide (V.int a = V.int b) = true then A else B := r_dec (fun h => h1 (V.int.inj h)) fun h => h2 fun e => h (by rw [e])
theorem r_ndecI {A B : Prop} {a b : Int} (h1 : a ≠ b → A) (h2 : a = b → B) : if (!decide (V.int a = V.int b)) = true then A else B := r_ndec (fun h => h1 fun e => h (by rw [e])) fun h => h2 (V.int.inj h)
theorem ixN_of {n j : Nat} (hj : j < n) : ixN n (j : Int) = some j := by
  unfold ixN
  rw [if_pos (by omega), if_pos (by omega)]
  simp
end
end Jv
namespace Jv
open PySem PySem.Spec PyProof.Rows L2
theorem at_i {xs : List V} {k : Int} {v : V} (h0 : 0 ≤ k) (h : xs[k.toNat]? = some v) : atI xs k = some v := by
  rw [show k = ((k.toNat : Nat) : Int) by omega]
  exact atI_nat h
theorem map_get {f : Int → V} {ns : List Int} {i : Nat} (h : i < ns.length) : (ns.map f)[i]? = some (f ns[i]) := by
  rw [List.getElem?_map, List.getElem?_eq_getElem h]; rfl
end Jv

/-! ### things of any sort -/
namespace Jv
open PySem PySem.Spec PyProof.Rows L2
/-- a thing that a law hands in: a scalar, or a list, a tuple, a dict that stands -/
def Th (H : Hp) : V → Prop
  | .non => True
  | .bl _ => True
  | .int _ => True
  | .str _ => True
  | .ref a => (∃ xs, H a = some (.lst xs)) ∨ (∃ xs, H a = some (.tup xs)) ∨ ∃ kvs, H a = some (.dK kvs)
  | _ => False
def isB : V → Bool
  | .bl _ => true
  | _ => false
def isI : V → Bool
  | .int _ => true
  | _ => false
/-- a list or a tuple of xs -/
def Sq (H : Hp) (x : V) (xs : List V) : Prop := ∃ a, x = .ref a ∧ (H a = some (.lst xs) ∨ H a = some (.tup xs))
def sqOf (H : Hp) : V → Option (List V)
  | .ref a => match H a with
    | some (.lst xs) => some xs
    | some (.tup xs) => some xs
    | _ => none
  | _ => none
theorem sq_some {H : Hp} {x : V} {xs : List V} (h : sqOf H x = some xs) : Sq H x xs := by
  unfold sqOf at h
  split at h
  · rename_i a
    split at h
    · rename_i ys e; cases h; exact ⟨a, rfl, .inl e⟩
    · rename_i ys e; cases h; exact ⟨a, rfl, .inr e⟩
    · cases h
  · cases h
theorem Sq.of {H : Hp} {x : V} {xs : List V} (h : Sq H x xs) : sqOf H x = some xs := by
  obtain ⟨a, rfl, h | h⟩ := h <;> simp [sqOf, h]
theorem Sq.same {H H' : Hp} {x : V} {xs : List V} (h : Sq H x xs) (s : Same H H') : Sq H' x xs := by
  obtain ⟨a, rfl, h | h⟩ := h
  · exact ⟨a, rfl, .inl (s _ _ h)⟩
  · exact ⟨a, rfl, .inr (s _ _ h)⟩
theorem Sq.th {H : Hp} {x : V} {xs : List V} (h : Sq H x xs) : Th H x := by
  obtain ⟨a, rfl, h | h⟩ := h
  · exact .inl ⟨_, h⟩
  · exact .inr (.inl ⟨_, h⟩)
theorem Th.same {H H' : Hp} {x : V} (h : Th H x) (s : Same H H') : Th H' x := by
  cases x with
  | ref a =>
    rcases h with ⟨xs, h⟩ | ⟨xs, h⟩ | ⟨xs, h⟩
    · exact .inl ⟨xs, s _ _ h⟩
    · exact .inr (.inl ⟨xs, s _ _ h⟩)
    · exact .inr (.inr ⟨xs, s _ _ h⟩)
  | _ => exact h
theorem sqOf_same {H H' : Hp} {x : V} (h : Th H x) (s : Same H H') : sqOf H' x = sqOf H x := by
  cases x with
  | ref a => rcases h with ⟨xs, h⟩ | ⟨xs, h⟩ | ⟨xs, h⟩ <;> simp [sqOf, h, s _ _ h]
  | _ => rfl
section
variable {K : PySem.W.Frag} {H : Hp} {x : V} {Q : VK}
theorem th_ty (h : Th H x) : ∃ t, TyX K H x (.type t) ∧ kitB t "bool" = some (isB x) ∧ kitB t "int" = some (isB x || isI x) ∧ kitB t "list" = some (t == "list") ∧ kitB t "tuple" = some (t == "tuple") ∧ ((t == "list") || (t == "tuple")) = (sqOf H x).isSome := by
  cases x with
  | non => exact ⟨_, .base .non, (by decide +kernel : kitB "NoneType" "bool" = some false), (by decide +kernel : kitB "NoneType" "int" = some false), by decide +kernel, by decide +kernel, (by decide +kernel : (("NoneType" == "list") || ("NoneType" == "tuple")) = false)⟩
  | bl b => exact ⟨_, .base (.bl b), (by decide +kernel : kitB "bool" "bool" = some true), (by decide +kernel : kitB "bool" "int" = some true), by decide +kernel, by decide +kernel, (by decide +kernel : (("bool" == "list") || ("bool" == "tuple")) = false)⟩
  | int i => exact ⟨_, .base (.int i), (by decide +kernel : kitB "int" "bool" = some false), (by decide +kernel : kitB "int" "int" = some true), by decide +kernel, by decide +kernel, (by decide +kernel : (("int" == "list") || ("int" == "tuple")) = false)⟩
  | str i => exact ⟨_, .base (.str i), (by decide +kernel : kitB "str" "bool" = some false), (by decide +kernel : kitB "str" "int" = some false), by decide +kernel, by decide +kernel, (by decide +kernel : (("str" == "list") || ("str" == "tuple")) = false)⟩
  | ref a =>
    rcases h with ⟨xs, h⟩ | ⟨xs, h⟩ | ⟨xs, h⟩
    · exact ⟨_, .base (.lst h), (by decide +kernel : kitB "list" "bool" = some false), (by decide +kernel : kitB "list" "int" = some false), by decide +kernel, by decide +kernel, by simp [sqOf, h]⟩
    · exact ⟨_, .base (.tup h), (by decide +kernel : kitB "tuple" "bool" = some false), (by decide +kernel : kitB "tuple" "int" = some false), by decide +kernel, by decide +kernel, by simp [sqOf, h]⟩
    · exact ⟨_, .base (.dK h), (by decide +kernel : kitB "dict" "bool" = some false), (by decide +kernel : kitB "dict" "int" = some false), by decide +kernel, by decide +kernel, by simp [sqOf, h]⟩
  | byt _ => exact h.elim
  | flt _ => exact h.elim
  | ty _ => exact h.elim
theorem r_isB (h : Th H x) (q : Q (.bl (isB x)) H) : rIsi K [x, .ty "bool"] H Q := by
  obtain ⟨t, h1, h2, _⟩ := th_ty (K := K) h
  exact ⟨x, _, _, _, _, rfl, .ty _, h1, kit_ty h2, q⟩
theorem r_isI (h : Th H x) (q : Q (.bl (isB x || isI x)) H) : rIsi K [x, .ty "int"] H Q := by
  obtain ⟨t, h1, _, h2, _⟩ := th_ty (K := K) h
  exact ⟨x, _, _, _, _, rfl, .ty _, h1, kit_ty h2, q⟩
theorem r_isS {p : Addr} (hp : H p = some (.tup [.ty "list", .ty "tuple"])) (h : Th H x) (q : Q (.bl (sqOf H x).isSome) H) : rIsiT K [x, .ref p] H Q := by
  obtain ⟨t, h1, _, _, h2, h3, h4⟩ := th_ty (K := K) h
  refine ⟨x, p, _, _, _, (sqOf H x).isSome, rfl, hp, .cons (.ty _) (.cons (.ty _) .nil), h1, ?_, q⟩
  refine kitAny_cons (kit_ty h2) (fun e => ?_) fun e => by rw [← h4, e]; rfl
  refine kitAny_cons (kit_ty h3) (fun e2 => ?_) fun e2 => by rw [← h4, e2, Bool.or_true]
  rw [kitAny_nil, ← h4, e, e2]; rfl
theorem r_rfl {a : V} {P : Prop} (q : P) : a = a ∧ P := ⟨rfl, q⟩
end
/-- is_whole's answer -/
def loOk : V → Int → Bool
  | .int l, i => decide (l ≤ i)
  | _, _ => true
def hiOk : V → Int → Bool
  | .int l, i => decide (i ≤ l)
  | _, _ => true
def wholeV : V → V → V → Bool
  | .int i, lo, hi => loOk lo i && hiOk hi i
  | _, _, _ => false
def Bd (x : V) : Prop := x = .non ∨ ∃ i, x = .int i
theorem wholeV_int {x : V} {l h : Int} : wholeV x (.int l) (.int h) = true → ∃ i, x = .int i ∧ l ≤ i ∧ i ≤ h := by
  intro q
  cases x with
  | int i => simp [wholeV, loOk, hiOk] at q; exact ⟨i, rfl, q⟩
  | _ => cases q
end Jv
namespace Jv
open PySem PySem.Spec PyProof.Rows L2
theorem wholeV_lo0 {i a : Int} {hi : V} (h : i < a) : wholeV (.int i) (.int a) hi = false := by
  show (decide (a ≤ i) && hiOk hi i) = false
  rw [decide_eq_false (by omega), Bool.false_and]
theorem wholeV_lo1 {i a : Int} {hi : V} (h : ¬ i < a) : wholeV (.int i) (.int a) hi = hiOk hi i := by
  show (decide (a ≤ i) && hiOk hi i) = _
  rw [decide_eq_true (by omega), Bool.true_and]
theorem r_dec1 {A B p : Prop} {_ : Decidable p} (h : p) (q : A) : if decide p = true then A else B := r_true (decide_eq_true h) q
theorem r_dec0 {A B p : Prop} {_ : Decidable p} (h : ¬ p) (q : B) : if decide p = true then A else B := r_false (decide_eq_false h) q
end Jv

/-! ### walks over a list or a tuple; comprehensions whose elements are told by a function -/
namespace Jv
open PySem PySem.Spec PyProof.Rows L2
theorem piOr {X : Cx} {tg it : Expr} {w1 w2 : TI} (h : PI X tg it w1) (h' : PI X tg it w2) : PI X tg it (fun σ H R => w1 σ H R ∨ w2 σ H R) := ⟨fun pins s σ H R I q => q.elim (h.run pins s σ H R I) (h'.run pins s σ H R I)⟩
section
variable {K : PySem.W.Frag} {σ : L2.St} {H : Hp} {te : TE} {Q : VK} {xs : List V} {j i : Nat} {x : V}
theorem wipe1 {v : Option V} : wipe ((σ.set j none).set j v) [j] = wipe σ [j] := by
  show ((σ.set j none).set j v).set j none = σ.set j none
  rw [List.set_set, List.set_set]
theorem take_more {α : Type} {l : List α} {i : Nat} {x : α} (h : l[i]? = some x) : l.take (i + 1) = l.take i ++ [x] := by
  rw [List.take_add_one, h]; rfl
theorem lcF {J : It} {G : Hp → Prop} (w : Walk J xs.length G (YAt xs)) (hG : ∀ H', Same H H' → G H') (f : V → V) (few : xs.length ≤ 1000)
    (hs : ∀ v H1, v ∈ xs → Same H H1 → ∀ P : VK, (∀ H2, Same H1 H2 → P (f v) H2) → te ((σ.set j none).set j (some v)) H1 P)
    (hd : ∀ D H1, Same H H1 → H D = none → H1 D = some (.lst (xs.map f)) → Q (.ref D) H1) : ∀ D, H D = none → ∃ W : Nat → Nat → Hp → Prop, (∃ m, W 0 m (upd H D (.lst []))) ∧ ∀ i m H, W i m H →
      (J.stop i H ∧ Q (.ref D) H) ∨ (J.go i H ∧ ∃ Nx : Hp → Prop, (∀ H', Nx H' → ∃ m', m' < m ∧ W (i + 1) m' H') ∧ ∀ x H', J.yld i H x H' → gName j x (wipe σ [j]) H' fun σ2 H2 => wipe σ2 [j] = wipe σ [j] ∧ tYes σ2 H2 fun b H3 =>
        if b = true then te σ2 H3 fun y H4 => ∃ acc, H4 D = some (.lst acc) ∧ acc.length < sizeLine ∧ Nx (upd H4 D (.lst (acc ++ [y]))) else Nx H3) := by
  intro D hD
  refine lc_it w (fun i H1 => Same H H1 ∧ H1 D = some (.lst ((xs.take i).map f))) ⟨same_new hD, upd_same⟩ (fun i H1 _ h => hG H1 h.1) ?_ ?_
  · rintro i x H1 H2 hi ⟨s1, e1⟩ ⟨rfl, hx⟩
    refine ⟨wipe1, ?_⟩
    refine r_yes ?_
    refine r_true (c := true) rfl ?_
    refine hs x _ (List.mem_of_getElem? hx) s1 _ fun H3 s3 => ⟨_, s3 _ _ e1, ?_, ?_, ?_⟩
    · rw [List.length_map, List.length_take]; exact small_lt (by omega)
    · intro b o e; exact kpO (s3 _ _ (s1 b o e)) (ne_of_none e hD)
    · rw [upd_same, take_more hx, List.map_append]; rfl
  · rintro H1 ⟨s1, e1⟩
    rw [List.take_length] at e1
    exact hd D H1 s1 hD e1
/-- over a name that holds a list | a tuple | either -/
theorem lcL {a : Addr} (hv : σ[i]? = some (some (.ref a))) (hx : SqL K H a xs) (f : V → V) (few : xs.length ≤ 1000)
    (hs : ∀ v H1, v ∈ xs → Same H H1 → ∀ P : VK, (∀ H2, Same H1 H2 → P (f v) H2) → te ((σ.set j none).set j (some v)) H1 P)
    (hd : ∀ D H1, Same H H1 → H D = none → H1 D = some (.lst (xs.map f)) → Q (.ref D) H1) : tLc (iList K (tVar i)) (gName j) tYes te [j] σ H Q :=
  ⟨_, hv, a, rfl, ⟨xs, hx⟩, lcF walk_list (fun H' s => s.seq hx) f few hs hd⟩
theorem lcT {a : Addr} (hv : σ[i]? = some (some (.ref a))) (hx : SqT K H a xs) (f : V → V) (few : xs.length ≤ 1000)
    (hs : ∀ v H1, v ∈ xs → Same H H1 → ∀ P : VK, (∀ H2, Same H1 H2 → P (f v) H2) → te ((σ.set j none).set j (some v)) H1 P)
    (hd : ∀ D H1, Same H H1 → H D = none → H1 D = some (.lst (xs.map f)) → Q (.ref D) H1) : tLc (iTup K (tVar i)) (gName j) tYes te [j] σ H Q :=
  ⟨_, hv, a, rfl, ⟨xs, hx⟩, lcF walk_tup (fun H' s => Jv.Same.sqT s hx) f few hs hd⟩
theorem lcS (hv : σ[i]? = some (some x)) (hx : Sq H x xs) (f : V → V) (few : xs.length ≤ 1000)
    (hs : ∀ v H1, v ∈ xs → Same H H1 → ∀ P : VK, (∀ H2, Same H1 H2 → P (f v) H2) → te ((σ.set j none).set j (some v)) H1 P)
    (hd : ∀ D H1, Same H H1 → H D = none → H1 D = some (.lst (xs.map f)) → Q (.ref D) H1) : tLc (fun σ H R => iList K (tVar i) σ H R ∨ iTup K (tVar i) σ H R) (gName j) tYes te [j] σ H Q := by
  obtain ⟨a, rfl, h | h⟩ := hx
  · exact .inl (lcL hv (sqL_at h) f few hs hd)
  · exact .inr (lcT hv (sqT_at h) f few hs hd)
theorem r_all {D : Addr} {f : V → Bool} (h : H D = some (.lst (xs.map fun v => V.bl (f v)))) (q : Q (.bl (xs.all f)) H) : rAll K [.ref D] H Q := by
  refine ⟨D, xs.map f, rfl, sqL_at (by rw [h, List.map_map]; rfl), ?_⟩
  rw [List.all_map]; exact q
theorem Sq.len (h : Sq H x xs) (q : Q (.int xs.length) H) : rLenK K [x] H Q := by
  obtain ⟨a, rfl, h | h⟩ := h
  · exact r_len (.inl (sqL_at h)) q
  · exact r_len (.inr (sqT_at h)) q
theorem Sq.ix (h : Sq H x xs) {k : Int} {v : V} (e : atI xs k = some v) (q : Q v H) : rIx K x (.int k) H Q := by
  obtain ⟨a, rfl, h | h⟩ := h
  · exact .inl (r_ixL (sqL_at h) e q)
  · exact .inr (.inl (r_ixT (sqT_at h) e q))
end
end Jv

/-! ### sorted(t) of a tuple of ints -/
namespace JvS
open PySem PySem.Spec PyProof.Rows L2 SrtO
section
variable {P : Program} {w : World} {A : Around} {E : Value → Shared → Prop} {s : Shared}
/-- the list that collect makes -/
abbrev colH (h : Heap) (vs : List Value) : Heap := (h.push (seqObj "list" #[] 0)).update h.objs.size (Obj.mapSeq (· ++ vs.toArray))
theorem collect_tup {l : Addr} {vs : List Value} {Q : List Value → Shared → Prop} (hl : s.heap.IsTuple l vs.toArray) (h : Q vs { s with heap := colH s.heap vs }) (hsz : vs.length ≤ sizeLine) :
    wpAny (model P w) A (collect (.ref l)) Q E s := by
  obtain ⟨o, ho, hc, n, hd⟩ := id hl
  have ho2 : (s.heap.push (seqObj "list" #[] 0)).get? l = some o := Heap.get?_push_of_some _ ho
  have new : (s.heap.push (seqObj "list" #[] 0)).get? s.heap.objs.size = some (seqObj "list" #[] 0) := Heap.get?_push_size _ rfl
  unfold collect
  refine wpAny_bind (wpAny_runValue (codeAny_builtin entry_proto_collect' (show wpAny _ _ (do again (.builtin "list.__iadd__" ⟨[← newList [], .ref l], []⟩)) _ _ s from
    wpAny_bind (wpAny_newList (wpAny_pure ⟨Code.quiet_builtin _ (by decide +kernel), codeAny_builtin entry_list_iadd' ?_⟩)))))
  show wpAny _ _ (Builtin.List.listExtendWith (.ref s.heap.objs.size) (.ref l) (.ref s.heap.objs.size)) _ _ { s with heap := s.heap.push (seqObj "list" #[] 0) }
  unfold Builtin.List.listExtendWith
  refine wpAny_bind (wpAny_typeOf (T := "tuple") ⟨o, ho2, hc⟩ ?_)
  rw [if_pos (by have e : (Value.type "tuple" == Value.type "tuple") = true := rfl
                 rw [e]; simp)]
  refine wpAny_bind (listItems_at ho2 hd (wpAny_bind (listItems_at (xs := #[]) (n := 0) new rfl ?_)))
  rw [if_neg (by simp)]
  refine wpAny_bind (listUpdate_at (xs := #[]) (n := 0) new rfl (wpAny_pure ?_) (Nat.zero_le _) (by show (#[] ++ vs.toArray).size ≤ sizeLine + 1; simp; omega))
  show wpAny (model P w) A (do
      let o ← load s.heap.objs.size
      match o.data with
      | .seq ys _ => pure ys.toList
      | _ => unsupported "internal:collect") Q E { s with heap := colH s.heap vs }
  refine wpAny_bind (wpAny_load (get?_update_seq new _) (show wpAny _ _ (pure ((#[] : Array Value) ++ vs.toArray).toList) Q E _ from ?_))
  rw [show ((#[] : Array Value) ++ vs.toArray).toList = vs by simp]
  exact wpAny_pure h
theorem sorted_tup {l : Addr} {vs : List Value} {ltv : Value → Value → Bool} {Q : Value → Shared → Prop} (O : Swo ltv) (hl : s.heap.IsTuple l vs.toArray) (hz : vs.length ≤ sizeLine)
    (hS : 2 ≤ vs.length → ∀ (h₁ : Heap) (a : Addr), h₁.get? a = some (seqObj "list" vs.toArray 0) → (∀ b o, s.heap.get? b = some o → b ≠ a ∧ h₁.get? b = some o) → SortableO P w A.in1.in1 { s with heap := h₁ } a vs ltv)
    (h : ∀ out : List Value, Srtd ltv out → Stb ltv out vs → Q (.ref (s.heap.objs.size + 1)) { s with heap := sortedAll s.heap vs out.toArray }) :
    wpAny (model P w) A (call (.builtin "sorted") [.ref l]) Q E s := by
  refine Calls.call_function_entry kind_sorted plain_sorted entry_sorted (args_sorted1 _) ?_
  unfold Builtin.«sorted»
  refine wpAny_bind (m := checkCount "sorted" 1 1 _) (wpAny_pure (wpAny_bind (collect_tup hl (wpAny_bind (wpAny_newList ?_ hz)) hz)))
  have size1 : (colH s.heap vs).objs.size = s.heap.objs.size + 1 := by rw [Heap.size_update, size_push']
  have at2 : ((colH s.heap vs).push (seqObj "list" vs.toArray 0)).get? (s.heap.objs.size + 1) = some (seqObj "list" vs.toArray 0) := by
    rw [← size1]; exact Heap.get?_push_size _ rfl
  have old : ∀ b o, s.heap.get? b = some o → b ≠ s.heap.objs.size + 1 ∧ ((colH s.heap vs).push (seqObj "list" vs.toArray 0)).get? b = some o := fun b o q => by
    have lt := Heap.lt_size q
    refine ⟨Nat.ne_of_lt (Nat.lt_succ_of_lt lt), Heap.get?_push_of_some _ ?_⟩
    rw [Heap.get?_update_ne _ _ _ _ (Nat.ne_of_lt lt)]
    exact Heap.get?_push_of_some _ q
  show wpAny _ _ _ _ _ { s with heap := (colH s.heap vs).push (seqObj "list" vs.toArray 0) }
  rw [size1]
  refine wpAny_bind (wpAny_holding (wpAny_call_entry slot_list_sort ⟨_, at2, rfl⟩ entry_list_sort (list_sort_ord O at2 hz (fun h2 => hS h2 _ _ at2 old) fun out a b => ⟨_, rfl, wpAny_pure ⟨_, rfl, h out a b⟩⟩) (args_list_sort _)))
end
end JvS
namespace Jv
open PySem PySem.Spec PyProof.Rows L2
section
variable {X : Cx}
/-- sorted(x), x a list or a tuple of ints -/
def rSortIT (K : PySem.W.Frag) : List V → Hp → VK → Prop := fun vs H Q => ∃ (a : Addr) (ns : List Int), vs = [V.ref a] ∧ (SqL K H a (ns.map V.int) ∨ SqT K H a (ns.map V.int)) ∧
  ∀ (ns' : List Int) (p : Addr), ns'.Perm ns → ns'.Pairwise (· ≤ ·) → H p = none → Q (.ref p) (upd H p (.lst (ns'.map V.int)))
theorem cr_sortIT : CallR X (.builtin "sorted") (rSortIT X.K) := by
  intro pins s σ H vs us Q I r h
  obtain ⟨a, ns, rfl, hs | hs, q⟩ := h
  · exact cr_sortedI pins s σ H _ us Q I r ⟨a, ns, rfl, hs, q⟩
  · obtain ⟨its, rv, ht, hz⟩ := I.tuple hs
    rw [Vals.ref1 r]
    have hi := rv.ints
    rw [List.length_map] at hz
    have hz2 : its.length ≤ sizeLine := by rw [← rv.length, List.length_map]; exact hz
    refine JvS.sorted_tup SrtO.swo_int (show s.heap.IsTuple a its.toArray from ht) hz2 (fun h2 _ _ _ _ => SrtO.ints_sortable hi h2) fun out h1 h2 => ?_
    obtain ⟨k1, k2, k3⟩ := SrtO.ints_out hi h1 h2
    obtain ⟨ep, he⟩ := PyProof.Rows.sortedAll_at s.heap its out.toArray
    refine ⟨.ref _, upd H (s.heap.objs.size + 1) (.lst ((out.map SrtO.iv).map V.int)), I.laid (t' := s.toks) (fun _ _ => PyProof.Rows.sortedAll_old) (Nat.le_succ _) ⟨?_, out, ep, vals_of_ints k1, he⟩, rfl, q _ _ k2 k3 (I.hok.fresh (Nat.le_succ _))⟩
    rw [List.length_map, k2.length_eq]; exact hz
end
/-! ### data of ints -/
theorem canAll_ints : ∀ ns : List Int, PyData.canLayAll0 (ns.map PyData.int) = true
  | [] => by simp [PyData.canLayAll0]
  | a :: r => by simp [PyData.canLayAll0, PyData.canLay0, canAll_ints r]
theorem depAll_ints : ∀ ns : List Int, PyData.depthAll (ns.map PyData.int) = 0
  | [] => by simp [PyData.depthAll]
  | a :: r => by simp [PyData.depthAll, PyData.depth, depAll_ints r]
theorem shapedL (ns : List Int) : SeqAt.shaped (.list (ns.map .int)) = true := by simp [SeqAt.shaped, PyData.canLay0, PyData.depth, canAll_ints, depAll_ints]
theorem shapedT (ns : List Int) : SeqAt.shaped (.tuple (ns.map .int)) = true := by simp [SeqAt.shaped, PyData.canLay0, PyData.depth, canAll_ints, depAll_ints]
theorem eqvAll_ints : ∀ a b : List Int, PyData.eqvAll (a.map .int) (b.map .int) = decide (a = b)
  | [], [] => by simp [PyData.eqvAll]
  | [], _ :: _ => by simp [PyData.eqvAll]
  | _ :: _, [] => by simp [PyData.eqvAll]
  | x :: a, y :: b => by
    simp only [List.map_cons, PyData.eqvAll, PyData.eqv, eqvAll_ints a b]
    by_cases h : x = y <;> by_cases g : a = b <;> simp [h, g]
theorem eqvL (a b : List Int) : PyData.eqv (.list (a.map .int)) (.list (b.map .int)) = decide (a = b) := by rw [PyData.eqv, eqvAll_ints]
theorem eqvT (a b : List Int) : PyData.eqv (.tuple (a.map .int)) (.tuple (b.map .int)) = decide (a = b) := by rw [PyData.eqv, eqvAll_ints]
section
variable {K : PySem.W.Frag} {H : Hp}
theorem dpAll_ints : ∀ ns : List Int, DpAll K H (ns.map V.int) (ns.map PyData.int)
  | [] => .nil
  | a :: r => .cons (.int a) (dpAll_ints r)
theorem dpL {a : Addr} {ns : List Int} (h : SqL K H a (ns.map V.int)) : Dp K H (.ref a) (.list (ns.map .int)) := .lst h (dpAll_ints ns)
theorem dpT {a : Addr} {ns : List Int} (h : SqT K H a (ns.map V.int)) : Dp K H (.ref a) (.tuple (ns.map .int)) := .tup h (dpAll_ints ns)
end
end Jv

/-! ### kinds, lots, orders -/
namespace Jv
open PySem PySem.Spec PyProof.Rows L2
def intsV : List V → Option (List Int)
  | [] => some []
  | .int i :: r => (intsV r).map (i :: ·)
  | _ :: _ => none
theorem iv_map : ∀ ns : List Int, intsV (ns.map V.int) = some ns
  | [] => rfl
  | a :: r => by simp [intsV, iv_map r]
theorem iv_of : ∀ {xs : List V} {ns : List Int}, intsV xs = some ns → xs = ns.map V.int
  | [], ns, h => by cases h; rfl
  | .int i :: r, ns, h => by
    cases e : intsV r with
    | none => simp [intsV, e] at h
    | some m => simp [intsV, e] at h; subst h; rw [iv_of e]; rfl
  | .non :: _, _, h => by cases h
  | .bl _ :: _, _, h => by cases h
  | .str _ :: _, _, h => by cases h
  | .byt _ :: _, _, h => by cases h
  | .flt _ :: _, _, h => by cases h
  | .ref _ :: _, _, h => by cases h
  | .ty _ :: _, _, h => by cases h
/-- what a sequence's items must be for the program to look at them -/
def ThS (H : Hp) (x : V) : Prop := Th H x ∧ ∀ xs, Sq H x xs → xs.length ≤ 60 ∧ ∀ v ∈ xs, Th H v
theorem ThS.same {H H' : Hp} {x : V} (h : ThS H x) (s : Same H H') : ThS H' x := ⟨h.1.same s, fun xs q => by
  have e := q.of
  rw [sqOf_same h.1 s] at e
  obtain ⟨a, b⟩ := h.2 xs (sq_some e)
  exact ⟨a, fun v m => (b v m).same s⟩⟩
def kindsB (H : Hp) (x : V) (k : Int) : Bool := match sqOf H x with
  | some xs => xs.all fun v => wholeV v (.int 0) (.int (k - 1))
  | none => false
def inK (k : Int) (ns : List Int) : Prop := ∀ n ∈ ns, 0 ≤ n ∧ n ≤ k - 1
theorem whole_all {k : Int} : ∀ {xs : List V}, (xs.all fun v => wholeV v (.int 0) (.int (k - 1))) = true → ∃ ns, xs = ns.map V.int ∧ inK k ns
  | [], _ => ⟨[], rfl, fun _ h => by cases h⟩
  | x :: r, h => by
    rw [List.all_cons, Bool.and_eq_true] at h
    obtain ⟨i, rfl, h1, h2⟩ := wholeV_int h.1
    obtain ⟨ns, rfl, h3⟩ := whole_all h.2
    refine ⟨i :: ns, rfl, fun n hn => ?_⟩
    rcases List.mem_cons.mp hn with rfl | hn
    · exact ⟨h1, h2⟩
    · exact h3 n hn
theorem all_whole {k : Int} {ns : List Int} (h : inK k ns) : ((ns.map V.int).all fun v => wholeV v (.int 0) (.int (k - 1))) = true := by
  rw [List.all_map, List.all_eq_true]
  intro n hn
  obtain ⟨a, b⟩ := h n hn
  show (decide (0 ≤ n) && decide (n ≤ k - 1)) = true
  rw [decide_eq_true a, decide_eq_true b]; rfl
instance {k : Int} {ns : List Int} : Decidable (inK k ns) := inferInstanceAs (Decidable (∀ n ∈ ns, _))
theorem whole_all_iff {k : Int} {ns : List Int} : ((ns.map V.int).all fun v => wholeV v (.int 0) (.int (k - 1))) = decide (inK k ns) := by
  by_cases h : inK k ns
  · rw [all_whole h, decide_eq_true h]
  · rw [decide_eq_false h]
    cases e : (ns.map V.int).all fun v => wholeV v (.int 0) (.int (k - 1)) with
    | false => rfl
    | true =>
      obtain ⟨ms, e2, h2⟩ := whole_all e
      have e3 : ns = ms := by have q := iv_map ns; rw [e2, iv_map] at q; cases q; rfl
      exact absurd (e3 ▸ h2) h
theorem sorted_ext : ∀ {a b : List Int}, a.Pairwise (· < ·) → b.Pairwise (· < ·) → (∀ n, n ∈ a ↔ n ∈ b) → a = b
  | [], [], _, _, _ => rfl
  | [], y :: _, _, _, h => absurd ((h y).mpr List.mem_cons_self) (by simp)
  | x :: _, [], _, _, h => absurd ((h x).mp List.mem_cons_self) (by simp)
  | x :: a, y :: b, ha, hb, h => by
    have ha' := List.pairwise_cons.mp ha
    have hb' := List.pairwise_cons.mp hb
    have e : x = y := by
      rcases List.mem_cons.mp ((h x).mp List.mem_cons_self) with e | m1
      · exact e
      · rcases List.mem_cons.mp ((h y).mpr List.mem_cons_self) with e | m2
        · exact e.symm
        · have q1 := hb'.1 x m1
          have q2 := ha'.1 y m2
          omega
    subst e
    congr 1
    refine sorted_ext ha'.2 hb'.2 fun n => ⟨fun m => ?_, fun m => ?_⟩
    · rcases List.mem_cons.mp ((h n).mp (List.mem_cons_of_mem _ m)) with e | q
      · subst e; exact absurd (ha'.1 n m) (by omega)
      · exact q
    · rcases List.mem_cons.mp ((h n).mpr (List.mem_cons_of_mem _ m)) with e | q
      · subst e; exact absurd (hb'.1 n m) (by omega)
      · exact q
def lotP (k : Int) (ns : List Int) : Prop := inK k ns ∧ 0 < ns.length ∧ ns.Pairwise (· < ·)
instance {k : Int} {ns : List Int} : Decidable (lotP k ns) := inferInstanceAs (Decidable (_ ∧ _))
def lotV (H : Hp) (x : V) (k : Int) : Bool := match sqOf H x with
  | some xs => match intsV xs with
    | some ns => decide (lotP k ns)
    | none => false
  | none => false
theorem set_eq {ns ms : List Int} (h1 : ms.Pairwise (· < ·)) (h2 : ∀ k : Int, k ∈ ms ↔ decide (k ∈ ns) = true) : (ns = ms) ↔ ns.Pairwise (· < ·) :=
  ⟨fun e => e ▸ h1, fun h => sorted_ext h h1 fun n => by rw [h2 n, decide_eq_true_iff]⟩
def orderP (k : Int) (ns : List Int) : Prop := inK k ns ∧ ns.Perm ((List.range k.toNat).map fun (i : Nat) => (i : Int))
instance {k : Int} {ns : List Int} : Decidable (orderP k ns) := inferInstanceAs (Decidable (_ ∧ _))
theorem range_sorted (n : Nat) : ((List.range n).map fun (i : Nat) => (i : Int)).Pairwise (· ≤ ·) := by
  rw [List.pairwise_map]
  exact List.pairwise_lt_range.imp fun h => by omega
theorem sorted_perm {a b : List Int} (ha : a.Pairwise (· ≤ ·)) (hb : b.Pairwise (· ≤ ·)) (h : a.Perm b) : a = b :=
  List.Perm.eq_of_pairwise (fun x y _ _ h1 h2 => by omega) ha hb h
def orderV (H : Hp) (x : V) (k : Int) : Bool := match sqOf H x with
  | some xs => match intsV xs with
    | some ns => decide (orderP k ns)
    | none => false
  | none => false
end Jv
namespace Jv
open PySem PySem.Spec PyProof.Rows L2
section
variable {H : Hp} {x : V} {k : Int} {ns : List Int}
theorem lotV_of (e : sqOf H x = some (ns.map V.int)) : lotV H x k = decide (lotP k ns) := by
  unfold lotV; rw [e]; dsimp only; rw [iv_map]
theorem orderV_of (e : sqOf H x = some (ns.map V.int)) : orderV H x k = decide (orderP k ns) := by
  unfold orderV; rw [e]; dsimp only; rw [iv_map]
theorem kindsB_of (e : sqOf H x = some (ns.map V.int)) : kindsB H x k = decide (inK k ns) := by
  unfold kindsB; rw [e]; exact whole_all_iff
theorem kindsB_true (h : kindsB H x k = true) : ∃ ns, sqOf H x = some (ns.map V.int) ∧ inK k ns := by
  unfold kindsB at h
  cases e : sqOf H x with
  | none => rw [e] at h; cases h
  | some xs =>
    rw [e] at h
    obtain ⟨ns, rfl, q⟩ := whole_all h
    exact ⟨ns, rfl, q⟩
theorem lotV_false (h : kindsB H x k = false) : lotV H x k = false := by
  cases e : sqOf H x with
  | none => unfold lotV; rw [e]
  | some xs =>
    cases e2 : intsV xs with
    | none => unfold lotV; rw [e]; dsimp only; rw [e2]
    | some ns =>
      obtain rfl := iv_of e2
      rw [lotV_of e, decide_eq_false]
      rintro ⟨h1, _⟩
      rw [kindsB_of e, decide_eq_true h1] at h; cases h
theorem orderV_false (h : kindsB H x k = false) : orderV H x k = false := by
  cases e : sqOf H x with
  | none => unfold orderV; rw [e]
  | some xs =>
    cases e2 : intsV xs with
    | none => unfold orderV; rw [e]; dsimp only; rw [e2]
    | some ns =>
      obtain rfl := iv_of e2
      rw [orderV_of e, decide_eq_false]
      rintro ⟨h1, _⟩
      rw [kindsB_of e, decide_eq_true h1] at h; cases h
theorem lotV_true (h : lotV H x k = true) : ∃ ns, sqOf H x = some (ns.map V.int) ∧ lotP k ns := by
  cases e : sqOf H x with
  | none => unfold lotV at h; rw [e] at h; cases h
  | some xs =>
    cases e2 : intsV xs with
    | none => unfold lotV at h; rw [e] at h; dsimp only at h; rw [e2] at h; cases h
    | some ns =>
      obtain rfl := iv_of e2
      rw [lotV_of e] at h
      exact ⟨ns, rfl, of_decide_eq_true h⟩
theorem Sq.or {K : PySem.W.Frag} {a : Addr} {xs : List V} (h : H a = some (.lst xs) ∨ H a = some (.tup xs)) : SqL K H a xs ∨ SqT K H a xs := h.elim (fun h => .inl (sqL_at h)) fun h => .inr (sqT_at h)
end
end Jv
namespace Jv
open PySem PySem.Spec PyProof.Rows L2
theorem rgV0 {k : Int} : rgV 0 k = ((List.range k.toNat).map fun (i : Nat) => (i : Int)).map V.int := by
  unfold rgV
  rw [List.map_map, Int.sub_zero]
  refine List.map_congr_left fun i _ => ?_
  show V.int (0 + (i : Int)) = V.int i
  rw [Int.zero_add]
end Jv

/-! ### pairs of two ranges; data as lists of pairs -/
namespace Jv
open PySem PySem.Spec PyProof.Rows L2
/-- references to tuples of two ints that stand -/
def Tups (H : Hp) (refs : List V) (prs : List (Int × Int)) : Prop := Paired (fun v (pr : Int × Int) => ∃ t, v = V.ref t ∧ H t = some (.tup [.int pr.1, .int pr.2])) refs prs
theorem Paired.mono' {α β : Type} {F G : α → β → Prop} (h : ∀ a b, F a b → G a b) : ∀ {xs : List α} {ys : List β}, Paired F xs ys → Paired G xs ys
  | _, _, .nil => .nil
  | _, _, .cons r t => .cons (h _ _ r) (Paired.mono' h t)
theorem Paired.snoc {α β : Type} {F : α → β → Prop} {a : α} {b : β} (h : F a b) : ∀ {xs : List α} {ys : List β}, Paired F xs ys → Paired F (xs ++ [a]) (ys ++ [b])
  | _, _, .nil => .cons h .nil
  | _, _, .cons r t => .cons r (Paired.snoc h t)
theorem Tups.same {H H' : Hp} {refs : List V} {prs : List (Int × Int)} (h : Tups H refs prs) (s : Same H H') : Tups H' refs prs := Paired.mono' (fun _ _ ⟨t, e, q⟩ => ⟨t, e, s _ _ q⟩) h
theorem Tups.upd {H : Hp} {D : Addr} {o : HO} {refs : List V} {prs : List (Int × Int)} (h : Tups H refs prs) (n : ∀ xs, H D ≠ some (.tup xs)) : Tups (L2.upd H D o) refs prs :=
  Paired.mono' (fun _ _ ⟨t, e, q⟩ => ⟨t, e, by rw [upd_ne]; exact q; intro z; rw [z] at q; exact n _ q⟩) h
def pairsTo (q i j : Nat) : List (Int × Int) := ((List.range i).flatMap fun (e : Nat) => (List.range q).map fun (w : Nat) => ((e : Int), (w : Int))) ++ (List.range j).map fun (w : Nat) => ((i : Int), (w : Int))
def prs (p q : Nat) : List (Int × Int) := pairsTo q p 0
theorem pairsTo_next (q i : Nat) : pairsTo q i q = pairsTo q (i + 1) 0 := by
  unfold pairsTo
  rw [List.range_succ, List.flatMap_append]
  simp
theorem pairsTo_more (q i j : Nat) : pairsTo q i (j + 1) = pairsTo q i j ++ [((i : Int), (j : Int))] := by
  unfold pairsTo
  rw [List.range_succ (n := j), List.map_append, List.append_assoc]; rfl
theorem pairsTo_len (q i j : Nat) : (pairsTo q i j).length = i * q + j := by
  unfold pairsTo
  rw [List.length_append, List.length_map, List.length_range]
  congr 1
  induction i with
  | zero => simp
  | succ i ih => rw [List.range_succ, List.flatMap_append, List.length_append, ih]; simp [Nat.succ_mul]
section
variable {σ : L2.St} {H : Hp} {ta tb : TA} {te : TE} {Q : VK} {a b p q : Nat}
theorem lc2R (hp : p ≤ 20) (hq : q ≤ 20) (w1 : ∀ x, wipe ((wipe σ [a, b]).set a (some x)) [a, b] = wipe σ [a, b])
    (w2 : ∀ x y, wipe ((wipe ((wipe σ [a, b]).set a (some x)) [b]).set b (some y)) [b] = wipe ((wipe σ [a, b]).set a (some x)) [b])
    (hta : ∀ P : List V → Hp → Prop, P [.int p] H → ta σ H P)
    (htb : ∀ (i : Nat) H1, i < p → Same H H1 → ∀ P : List V → Hp → Prop, P [.int q] H1 → tb ((wipe σ [a, b]).set a (some (.int i))) H1 P)
    (hte : ∀ (i j : Nat) H1, i < p → j < q → Same H H1 → ∀ P : VK, (∀ t H2, Same H1 H2 → H1 t = none → H2 t = some (.tup [.int i, .int j]) → P (.ref t) H2) → te ((wipe ((wipe σ [a, b]).set a (some (.int i))) [b]).set b (some (.int j))) H1 P)
    (hd : ∀ D refs H1, Same H H1 → H D = none → H1 D = some (.lst refs) → Tups H1 refs (prs p q) → Q (.ref D) H1) :
    tLc2 (iRng1 ta) (gName a) tYes (iRng1 tb) (gName b) tYes te [a, b] [b] σ H Q := by
  refine hta _ ⟨p, rfl, by omega, by omega, fun D hD => ?_⟩
  have key : ∀ (i j : Nat) H1, (∃ refs, Same H H1 ∧ H1 D = some (.lst refs) ∧ Tups H1 refs (pairsTo q i j)) → ∃ refs, Same H H1 ∧ H1 D = some (.lst refs) ∧ Tups H1 refs (pairsTo q i j) := fun _ _ _ h => h
  refine ⟨fun i m H1 => m = p - i ∧ i ≤ p ∧ ∃ refs, Same H H1 ∧ H1 D = some (.lst refs) ∧ Tups H1 refs (pairsTo q i 0), ⟨p, by omega, by omega, [], same_new hD, upd_same, .nil⟩, ?_⟩
  rintro i m H1 ⟨rfl, hi, refs, s1, e1, t1⟩
  by_cases lt : i < p
  · refine .inr ⟨by show i < (p : Int).toNat; omega, fun H' => ∃ refs, Same H H' ∧ H' D = some (.lst refs) ∧ Tups H' refs (pairsTo q (i + 1) 0), fun H' h => ⟨p - (i + 1), by omega, rfl, lt, h⟩, ?_⟩
    rintro x H2 ⟨rfl, rfl⟩
    rw [Int.zero_add]
    refine ⟨w1 _, r_yes (r_true (c := true) rfl ?_)⟩
    refine htb i _ lt s1 _ ⟨q, rfl, by omega, by omega, ?_⟩
    refine ⟨fun j k H1 => k = q - j ∧ j ≤ q ∧ ∃ refs, Same H H1 ∧ H1 D = some (.lst refs) ∧ Tups H1 refs (pairsTo q i j), ⟨q, by omega, by omega, refs, s1, e1, t1⟩, ?_⟩
    rintro j k H3 ⟨rfl, hj, refs, s3, e3, t3⟩
    by_cases lt2 : j < q
    · refine .inr ⟨by show j < (q : Int).toNat; omega, fun H' => ∃ refs, Same H H' ∧ H' D = some (.lst refs) ∧ Tups H' refs (pairsTo q i (j + 1)), fun H' h => ⟨q - (j + 1), by omega, rfl, lt2, h⟩, ?_⟩
      rintro y H4 ⟨rfl, rfl⟩
      rw [Int.zero_add]
      refine ⟨w2 _ _, r_yes (r_true (c := true) rfl ?_)⟩
      refine hte i j _ lt lt2 s3 _ fun t H5 s5 ht h5 => ⟨refs, s5 _ _ e3, ?_, refs ++ [.ref t], ?_, upd_same, ?_⟩
      · have h1 := Paired.length t3
        have h2 := pairsTo_len q i j
        have h3 : i * q ≤ 20 * 20 := Nat.mul_le_mul (by omega) (by omega)
        exact small_lt (by omega)
      · intro c o hc
        exact kpO (s5 _ _ (s3 _ _ hc)) (ne_of_none hc hD)
      · rw [pairsTo_more]
        refine Tups.upd (Paired.snoc ⟨t, rfl, h5⟩ (t3.same s5)) fun xs z => ?_
        have := s5 _ _ e3
        rw [this] at z; cases z
    · have ej : j = q := by omega
      subst ej
      refine .inl ⟨by show (j : Int).toNat ≤ j; omega, refs, s3, e3, ?_⟩
      rw [← pairsTo_next]; exact t3
  · have ei : i = p := by omega
    subst ei
    exact .inl ⟨by show (i : Int).toNat ≤ i; omega, hd D refs _ s1 hD e1 t1⟩
end
end Jv
namespace Jv
open PySem PySem.Spec PyProof.Rows L2
theorem log_small {m : Int} (h0 : 0 < m) (h1 : m < 2 ^ 200) : m.natAbs.log2 < 9000 := Nat.lt_trans (PySem.Flt.log2_lt_of (n := m.natAbs) (k := 200) (by decide) (by omega)) (by decide)
theorem cdivS {i m : Int} (h0 : 0 < m) (h1 : m < 2 ^ 200) : CDivW i m := ⟨h0, log_small h0 h1⟩
end Jv
namespace Jv
open PySem PySem.Spec PyProof.Rows L2
section
variable {K : PySem.W.Frag} {σ : L2.St} {H : Hp} {Q : VK} {to : TE} {t : TA} {y : V}
theorem r_bm {T : String} {r : V → List V → Hp → VK → Prop} (h : to σ H fun x H1 => tyV K T x H1 ∧ t σ H1 fun xs H2 => r x xs H2 Q) : tBM K T r to t σ H Q := h
theorem r_tyL {p : Addr} {xs : List V} {P : Prop} (h : H p = some (.lst xs)) (q : P) : tyV K "list" (.ref p) H ∧ P := ⟨.inl ⟨rfl, xs, sqL_at h⟩, q⟩
theorem r_app {l : Addr} {xs : List V} (h : H l = some (.lst xs)) (hz : xs.length < 1000) (q : Q .non (upd H l (.lst (xs ++ [y])))) : rAppend (.ref l) [y] H Q := ⟨l, xs, y, rfl, rfl, h, small_lt hz, q⟩
theorem seqIx {k : Int} {n : Nat} (h0 : 0 ≤ k) (h1 : k.toNat < n) : seqIndex? k n = some k.toNat := by
  unfold seqIndex?
  simp; omega
theorem r_popAt {l : Addr} {xs : List V} {k : Int} (h : H l = some (.lst xs)) (h0 : 0 ≤ k) (h1 : k < 1000) (e : xs[k.toNat]? = some y) (q : Q y (upd H l (.lst (xs.eraseIdx k.toNat)))) : rPopAt (.ref l) [.int k] H Q :=
  ⟨l, xs, k, k.toNat, y, rfl, rfl, h, by omega, by omega, seqIx h0 (List.getElem?_eq_some_iff.mp e).1, e, q⟩
theorem erase_perm : ∀ {l : List Int} {k : Nat} {z : Int}, l[k]? = some z → (z :: l.eraseIdx k).Perm l
  | [], k, z, h => by simp at h
  | a :: r, 0, z, h => by
    have e : a = z := Option.some.inj h
    subst e; exact .refl _
  | a :: r, k + 1, z, h => (List.Perm.swap a z _).trans (List.Perm.cons a (erase_perm (l := r) (k := k) h))
theorem pop_perm {ns ms : List Int} {k : Nat} {z : Int} (e : ms[k]? = some z) : ((ns ++ [z]) ++ ms.eraseIdx k).Perm (ns ++ ms) := by
  rw [List.append_assoc]
  exact List.Perm.append_left ns (erase_perm e)
def rgI (n : Nat) : List Int := (List.range n).map fun (i : Nat) => (i : Int)
end
theorem rises_no {ns : List Int} {k b z : Int} {i : Nat} (hz : ns[i]? = some z) (hb : b = -1 ∨ b ∈ ns.take i) (h : ¬ (b < z ∧ z < k)) : ¬ lotP k ns := fun ⟨h1, _, h3⟩ => by
  obtain ⟨a0, a1⟩ := h1 z (List.mem_of_getElem? hz)
  refine h ⟨?_, by omega⟩
  rcases hb with rfl | hb
  · omega
  · obtain ⟨hi, rfl⟩ := List.getElem?_eq_some_iff.mp hz
    rw [← List.take_append_drop i ns, List.pairwise_append] at h3
    exact h3.2.2 b hb _ (by rw [List.mem_iff_getElem]; exact ⟨0, by rw [List.length_drop]; omega, by simp⟩)
end Jv
namespace Jv
open PySem PySem.Spec PyProof.Rows L2
theorem erase_map : ∀ (l : List Int) (j : Nat), (l.map V.int).eraseIdx j = (l.eraseIdx j).map V.int
  | [], _ => rfl
  | _ :: _, 0 => rfl
  | a :: r, j + 1 => congrArg (V.int a :: ·) (erase_map r j)
end Jv

/-! ### keyword calls, dict displays, things that are refused -/
namespace Jv
open PySem PySem.Spec PyProof.Rows L2
section
variable {K : PySem.W.Frag} {σ : L2.St} {H : Hp} {t tk : TA} {te tv : TE} {Q : VK} {A B : Prop}
theorem r_callN {n m : Nat} {sp : Sp} {gV : List V → List V → List V} {E : XK} (h : t σ H fun vs H1 => tk σ H1 fun zs H2 => vs.length = n ∧ zs.length = m ∧ sp (gV vs zs) H2 Q E) : tCallN n m sp gV E t tk σ H Q := h
theorem r_disp1 {k v : Int} (q : ∀ p, H p = none → Q (.ref p) (upd H p (.dK [(.inl k, .int v)]))) : tDisp [(tC (.int k), tC (.int v))] σ H Q := fun p hp =>
  ⟨upd_same, [(.inl k, .int v)], rfl, Nat.le_of_ble_eq_true rfl, by rw [upd_upd]; exact q p hp⟩
theorem r_disp2 {k v k' v' : Int} (ne : k ≠ k') (q : ∀ p, H p = none → Q (.ref p) (upd H p (.dK [(.inl k, .int v), (.inl k', .int v')]))) : tDisp [(tC (.int k), tC (.int v)), (tC (.int k'), tC (.int v'))] σ H Q := fun p hp =>
  ⟨upd_same, [(.inl k, .int v), (.inl k', .int v')], rfl, Nat.le_of_ble_eq_true rfl, by
    rw [upd_upd]
    have e : mergeK ([] : List (Key × V)) [(.inl k, .int v), (.inl k', .int v')] = [(.inl k, .int v), (.inl k', .int v')] := by
      simp [mergeK, putK, ne]
    rw [e]; exact q p hp⟩
theorem r_same {b : Bool} (q : B) : if (!decide (b = b)) = true then A else B := r_false (by rw [decide_eq_true rfl]; rfl) q
theorem r_same' {b c : Bool} (e : b = c) (q : B) : if (!decide (b = c)) = true then A else B := by subst e; exact r_same q
/-- the same, in a condition that is not yet an if -/
theorem r_dsame {P : Bool → Prop} {b : Bool} (q : P true) : P (decide (b = b)) := by rw [decide_eq_true rfl]; exact q
theorem r_and_k {te ta : TE} {c : Bool} (h : te σ H fun x H1 => ∃ c, x = .bl c ∧ if c = true then ta σ H1 Q else Q (.bl false) H1) : tAndV te ta σ H Q := h
end
/-- a thing that is neither a lot nor an order nor sides nor a couple -/
def BadTh (H : Hp) (x : V) : Prop := ThS H x ∧ ∀ xs, sqOf H x = some xs → intsV xs = none
theorem BadTh.same {H H' : Hp} {x : V} (h : BadTh H x) (s : Same H H') : BadTh H' x := ⟨h.1.same s, fun xs e => h.2 xs (by rw [← sqOf_same h.1.1 s]; exact e)⟩
theorem BadTh.lot {H : Hp} {x : V} {k : Int} (h : BadTh H x) : lotV H x k = false := by
  unfold lotV
  cases e : sqOf H x with
  | none => rfl
  | some xs => dsimp only; rw [h.2 xs e]
theorem BadTh.order {H : Hp} {x : V} {k : Int} (h : BadTh H x) : orderV H x k = false := by
  unfold orderV
  cases e : sqOf H x with
  | none => rfl
  | some xs => dsimp only; rw [h.2 xs e]
section
variable {H : Hp}
theorem bad_sc {x : V} (h : Th H x) (n : sqOf H x = none) : BadTh H x := ⟨⟨h, fun xs q => by rw [q.of] at n; cases n⟩, fun xs e => by rw [n] at e; cases e⟩
theorem bad_dK {a : Addr} {kvs : List (Key × V)} (h : H a = some (.dK kvs)) : BadTh H (.ref a) := bad_sc (.inr (.inr ⟨_, h⟩)) (by simp [sqOf, h])
theorem bad_sq {a : Addr} {xs : List V} (h : H a = some (.lst xs) ∨ H a = some (.tup xs)) (few : xs.length ≤ 60) (th : ∀ v ∈ xs, Th H v) (n : intsV xs = none) : BadTh H (.ref a) := by
  have sq : Sq H (.ref a) xs := ⟨a, rfl, h⟩
  refine ⟨⟨sq.th, fun ys q => ?_⟩, fun ys e => ?_⟩
  · have e := q.of; rw [sq.of] at e; cases e; exact ⟨few, th⟩
  · rw [sq.of] at e; cases e; exact n
theorem thS_ints {a : Addr} {ns : List Int} (h : H a = some (.lst (ns.map V.int)) ∨ H a = some (.tup (ns.map V.int))) (few : ns.length ≤ 60) : ThS H (.ref a) := by
  have sq : Sq H (.ref a) (ns.map V.int) := ⟨a, rfl, h⟩
  refine ⟨sq.th, fun ys q => ?_⟩
  have e := q.of; rw [sq.of] at e; cases e
  refine ⟨by rw [List.length_map]; exact few, fun v hv => ?_⟩
  obtain ⟨i, _, rfl⟩ := List.mem_map.mp hv
  trivial
theorem wholeV_not {x lo hi : V} (h : isI x = false) : wholeV x lo hi = false := by
  cases x with
  | int i => cases h
  | _ => rfl
theorem shaped_bad {d : PyData} (h : PyData.canLay0 d = true) (h2 : PyData.depth d = 0) : SeqAt.shaped (.list [.str "bad", d]) = true := by
  simp [SeqAt.shaped, PyData.canLay0, PyData.depth, PyData.canLayAll0, PyData.depthAll, h, h2]; decide +kernel
end
end Jv

/-! ### data: none, truths, whole numbers, texts, lists that stand, tuples that stand or are the program's own -/
namespace Jv
open PySem PySem.Spec PyProof.Rows L2
mutual
inductive Dv (K : PySem.W.Frag) (H : Hp) : V → PyData → Prop
  | non : Dv K H .non .none
  | bl (b : Bool) : Dv K H (.bl b) (.bool b)
  | int (i : Int) : Dv K H (.int i) (.int i)
  | str (x : Str) : Dv K H (.str x) (.str x)
  | lst {a : Addr} {xs : List V} {ds : List PyData} : H a = some (.lst xs) → DvAll K H xs ds → Dv K H (.ref a) (.list ds)
  | tup {a : Addr} {xs : List V} {ds : List PyData} : SqT K H a xs → DvAll K H xs ds → Dv K H (.ref a) (.tuple ds)
inductive DvAll (K : PySem.W.Frag) (H : Hp) : List V → List PyData → Prop
  | nil : DvAll K H [] []
  | cons {v : V} {vs : List V} {d : PyData} {ds : List PyData} : Dv K H v d → DvAll K H vs ds → DvAll K H (v :: vs) (d :: ds)
end
mutual
theorem Dv.same {K : PySem.W.Frag} {H H' : Hp} (s : Same H H') : ∀ {v : V} {d : PyData}, Dv K H v d → Dv K H' v d
  | _, _, .non => .non
  | _, _, .bl b => .bl b
  | _, _, .int i => .int i
  | _, _, .str x => .str x
  | _, _, .lst h q => .lst (s _ _ h) (DvAll.same s q)
  | _, _, .tup h q => .tup (Jv.Same.sqT s h) (DvAll.same s q)
theorem DvAll.same {K : PySem.W.Frag} {H H' : Hp} (s : Same H H') : ∀ {vs : List V} {ds : List PyData}, DvAll K H vs ds → DvAll K H' vs ds
  | _, _, .nil => .nil
  | _, _, .cons a b => .cons (Dv.same s a) (DvAll.same s b)
end
mutual
theorem Dv.dp {K : PySem.W.Frag} {H : Hp} : ∀ {v : V} {d : PyData}, Dv K H v d → Dp K H v d
  | _, _, .non => .non
  | _, _, .bl b => .bl b
  | _, _, .int i => .int i
  | _, _, .str x => .str x
  | _, _, .lst h q => .lst (sqL_at h) (DvAll.dp q)
  | _, _, .tup h q => .tup h (DvAll.dp q)
theorem DvAll.dp {K : PySem.W.Frag} {H : Hp} : ∀ {vs : List V} {ds : List PyData}, DvAll K H vs ds → DpAll K H vs ds
  | _, _, .nil => .nil
  | _, _, .cons a b => .cons (Dv.dp a) (DvAll.dp b)
end
section
variable {K : PySem.W.Frag} {H : Hp} {v : V} {d : PyData} {vs : List V} {ds : List PyData}
theorem DvAll.len : ∀ {vs : List V} {ds : List PyData}, DvAll K H vs ds → vs.length = ds.length
  | _, _, .nil => rfl
  | _, _, .cons _ b => congrArg (· + 1) (DvAll.len b)
theorem DvAll.snoc (h : Dv K H v d) : ∀ {vs : List V} {ds : List PyData}, DvAll K H vs ds → DvAll K H (vs ++ [v]) (ds ++ [d])
  | _, _, .nil => .cons h .nil
  | _, _, .cons a b => .cons a (DvAll.snoc h b)
theorem DvAll.at : ∀ {vs : List V} {ds : List PyData} {i : Nat} {v : V}, DvAll K H vs ds → vs[i]? = some v → ∃ d, ds[i]? = some d ∧ Dv K H v d
  | _, _, _, _, .nil, e => by simp at e
  | _, _, 0, _, .cons a _, e => by
    simp at e; subst e; exact ⟨_, rfl, a⟩
  | _, _, i + 1, _, .cons _ b, e => by
    simp at e ⊢; exact DvAll.at b e
theorem DvAll.of : ∀ {vs : List V} {ds : List PyData} {i : Nat} {d : PyData}, DvAll K H vs ds → ds[i]? = some d → ∃ v, vs[i]? = some v ∧ Dv K H v d
  | _, _, _, _, .nil, e => by simp at e
  | _, _, 0, _, .cons a _, e => by
    simp at e; subst e; exact ⟨_, rfl, a⟩
  | _, _, i + 1, _, .cons _ b, e => by
    simp at e ⊢; exact DvAll.of b e
theorem dv_ints : ∀ ns : List Int, DvAll K H (ns.map V.int) (ns.map PyData.int)
  | [] => .nil
  | a :: r => .cons (.int a) (dv_ints r)
end
/-- what sort a thing is -/
def tyD : PyData → String
  | .none => "NoneType"
  | .bool _ => "bool"
  | .int _ => "int"
  | .str _ => "str"
  | .list _ => "list"
  | .tuple _ => "tuple"
  | _ => "object"
def boolD : PyData → Bool
  | .bool _ => true
  | _ => false
def intD : PyData → Bool
  | .int _ => true
  | _ => false
def seqD : PyData → Option (List PyData)
  | .list xs => some xs
  | .tuple xs => some xs
  | _ => none
section
variable {K : PySem.W.Frag} {H : Hp} {v : V} {d : PyData} {Q : VK}
theorem SqT.tyX {a : Addr} {xs : List V} (h : SqT K H a xs) : TyX K H (.ref a) (.type "tuple") := by
  rcases h with (h | ⟨o, h⟩) | ⟨o, its, n, h, c, _⟩
  · exact .base (.tup h)
  · exact .fTuple h
  · exact .kTuple h c
theorem Dv.ty (h : Dv K H v d) : TyX K H v (.type (tyD d)) := by
  cases h with
  | non => exact .base .non
  | bl b => exact .base (.bl b)
  | int i => exact .base (.int i)
  | str x => exact .base (.str x)
  | lst h _ => exact .base (.lst h)
  | tup h _ => exact SqT.tyX h
theorem Dv.kits (h : Dv K H v d) : kitB (tyD d) "bool" = some (boolD d) ∧ kitB (tyD d) "int" = some (boolD d || intD d) ∧ kitB (tyD d) "list" = some (tyD d == "list") ∧ kitB (tyD d) "tuple" = some (tyD d == "tuple") ∧ kitB (tyD d) "str" = some (tyD d == "str") ∧ ((tyD d == "list") || (tyD d == "tuple")) = (seqD d).isSome := by
  cases h with
  | non => exact ⟨(by decide +kernel : kitB "NoneType" "bool" = some false), (by decide +kernel : kitB "NoneType" "int" = some false), (by decide +kernel : kitB "NoneType" "list" = some ("NoneType" == "list")), (by decide +kernel : kitB "NoneType" "tuple" = some ("NoneType" == "tuple")), (by decide +kernel : kitB "NoneType" "str" = some ("NoneType" == "str")), (by decide +kernel : (("NoneType" == "list") || ("NoneType" == "tuple")) = false)⟩
  | bl b => exact ⟨(by decide +kernel : kitB "bool" "bool" = some true), (by decide +kernel : kitB "bool" "int" = some true), (by decide +kernel : kitB "bool" "list" = some ("bool" == "list")), (by decide +kernel : kitB "bool" "tuple" = some ("bool" == "tuple")), (by decide +kernel : kitB "bool" "str" = some ("bool" == "str")), (by decide +kernel : (("bool" == "list") || ("bool" == "tuple")) = false)⟩
  | int i => exact ⟨(by decide +kernel : kitB "int" "bool" = some false), (by decide +kernel : kitB "int" "int" = some true), (by decide +kernel : kitB "int" "list" = some ("int" == "list")), (by decide +kernel : kitB "int" "tuple" = some ("int" == "tuple")), (by decide +kernel : kitB "int" "str" = some ("int" == "str")), (by decide +kernel : (("int" == "list") || ("int" == "tuple")) = false)⟩
  | str x => exact ⟨(by decide +kernel : kitB "str" "bool" = some false), (by decide +kernel : kitB "str" "int" = some false), (by decide +kernel : kitB "str" "list" = some ("str" == "list")), (by decide +kernel : kitB "str" "tuple" = some ("str" == "tuple")), (by decide +kernel : kitB "str" "str" = some ("str" == "str")), (by decide +kernel : (("str" == "list") || ("str" == "tuple")) = false)⟩
  | lst _ _ => exact ⟨(by decide +kernel : kitB "list" "bool" = some false), (by decide +kernel : kitB "list" "int" = some false), (by decide +kernel : kitB "list" "list" = some ("list" == "list")), (by decide +kernel : kitB "list" "tuple" = some ("list" == "tuple")), (by decide +kernel : kitB "list" "str" = some ("list" == "str")), (by decide +kernel : (("list" == "list") || ("list" == "tuple")) = true)⟩
  | tup _ _ => exact ⟨(by decide +kernel : kitB "tuple" "bool" = some false), (by decide +kernel : kitB "tuple" "int" = some false), (by decide +kernel : kitB "tuple" "list" = some ("tuple" == "list")), (by decide +kernel : kitB "tuple" "tuple" = some ("tuple" == "tuple")), (by decide +kernel : kitB "tuple" "str" = some ("tuple" == "str")), (by decide +kernel : (("tuple" == "list") || ("tuple" == "tuple")) = true)⟩
theorem d_isB (h : Dv K H v d) (q : Q (.bl (boolD d)) H) : rIsi K [v, .ty "bool"] H Q := ⟨v, _, _, _, _, rfl, .ty _, h.ty, kit_ty h.kits.1, q⟩
theorem d_isI (h : Dv K H v d) (q : Q (.bl (boolD d || intD d)) H) : rIsi K [v, .ty "int"] H Q := ⟨v, _, _, _, _, rfl, .ty _, h.ty, kit_ty h.kits.2.1, q⟩
theorem d_isT (h : Dv K H v d) (q : Q (.bl (tyD d == "tuple")) H) : rIsi K [v, .ty "tuple"] H Q := ⟨v, _, _, _, _, rfl, .ty _, h.ty, kit_ty h.kits.2.2.2.1, q⟩
theorem d_isStr (h : Dv K H v d) (q : Q (.bl (tyD d == "str")) H) : rIsi K [v, .ty "str"] H Q := ⟨v, _, _, _, _, rfl, .ty _, h.ty, kit_ty h.kits.2.2.2.2.1, q⟩
theorem d_isS {p : Addr} (hp : H p = some (.tup [.ty "list", .ty "tuple"])) (h : Dv K H v d) (q : Q (.bl (seqD d).isSome) H) : rIsiT K [v, .ref p] H Q := by
  obtain ⟨_, _, h2, h3, _, h4⟩ := h.kits
  refine ⟨v, p, _, _, _, (seqD d).isSome, rfl, hp, .cons (.ty _) (.cons (.ty _) .nil), h.ty, ?_, q⟩
  refine kitAny_cons (kit_ty h2) (fun e => ?_) fun e => by rw [← h4, e]; rfl
  refine kitAny_cons (kit_ty h3) (fun e2 => ?_) fun e2 => by rw [← h4, e2, Bool.or_true]
  rw [kitAny_nil, ← h4, e, e2]; rfl
/-- a sequence's items -/
theorem Dv.seq (h : Dv K H v d) {ds : List PyData} (e : seqD d = some ds) : ∃ a xs, v = .ref a ∧ (SqL K H a xs ∨ SqT K H a xs) ∧ DvAll K H xs ds := by
  cases h with
  | lst h q => cases e; exact ⟨_, _, rfl, .inl (sqL_at h), q⟩
  | tup h q => cases e; exact ⟨_, _, rfl, .inr h, q⟩
  | _ => cases e
end
/-- is_whole's answer, of data -/
def wholeD : PyData → V → V → Bool
  | .int i, lo, hi => loOk lo i && hiOk hi i
  | _, _, _ => false
end Jv

/-! ### methods, makings that may raise within a try; static methods; readings of objects -/
namespace Jv
open PySem PySem.Spec PyProof.Rows L2
section
variable {X : Cx} {CX : CXT} {k : Nat} {f C : Addr} {fd : FuncData} {ps : List Str} {sp : Sp} {dvs : List V} {ds : List Value} {E : L2.St → XK} {x m : Str} {p pos apos : Pos} {e o : Expr} {es : List Expr} {ta : TE} {t : TA}
theorem run_fnX {pins : List (Addr × Obj)} {σ : L2.St} {H : Hp} {s : Shared} {Q : VK} {us : List Value} {vs : List V} (F : FnOk X.prog X.w X.K X.mg X.base CX k f fd ps sp) (hr : Room k X.A) (hb : Binds X.K fd ps ds) (hd : Vals dvs ds) (hx : PassesAt CX X σ (E σ))
    (I : Inv X pins σ H s) (r : Vals vs us) (h : sp (vs ++ dvs) H Q (E σ)) : wpAny (model X.prog X.w) X.A (call (.ref f) us) (EP X pins σ Q) X.xe s := by
  have r2 : Vals (vs ++ dvs) (us ++ ds) := r.append hd
  have hl : (us ++ ds).length = ps.length := by rw [← r2.length]; exact F.len _ _ _ _ h
  refine wpAny_call (codeAny_mono (F.run X.A X.stack s H ⟨us, []⟩ (us ++ ds) (vs ++ dvs) Q (E σ) hr I.env0 (hb s us I.kIn hl) r2 h) fun r s' hq => ?_)
  cases r with
  | error e => exact hx pins H s e s' I hq
  | ok fl =>
    cases fl with
    | ret u => exact I.after hq
    | next => exact False.elim hq
    | brk => exact False.elim hq
    | cont => exact False.elim hq
def tMethX (C : Addr) (m : Str) (sp : Sp) (dvs : List V) (E : L2.St → XK) (ta : TE) (t : TA) : TE := fun σ H Q => ta σ H fun x H1 => ∃ a dx fs, x = .ref a ∧ H1 a = some (.ins C dx fs) ∧ fs.lookup m = none ∧
  t σ H1 fun vs H2 => sp (x :: (vs ++ dvs)) H2 Q (E σ)
theorem pe_methX {pl : Sem Bool} (he : PE X o ta) (c : Cls X.K C) (hm : Meth X.K C m f) (F : FnOk X.prog X.w X.K X.mg X.base CX k f fd ps sp) (hr : Room k X.A) (hb : Binds X.K fd ps ds) (hd : Vals dvs ds) (hx : ∀ σ, PassesAt CX X σ (E σ)) (ha : PA X (e :: es) t)
    (hst : starEach (e :: es) X.env = (false, eval e X.env) :: starEach es X.env := by rfl) (hpl : (backTo pos (starEach es X.env)).any (·.1) = false := by rfl)
    (ht : eval (.Call (.Attribute o m apos) (e :: es) [] pos) X.env = (do
      let ov ← eval o X.env
      standAt apos.atName
      let (f, first) ← holding [ov] (getMethod ov m pl)
      callWith pos f first (backTo pos (starEach (e :: es) X.env)) (backToKw pos (keywordEach [] X.env))) := by rfl) :
    PE X (.Call (.Attribute o m apos) (e :: es) [] pos) (tMethX C m sp dvs E ta t) := by
  refine ⟨fun pins s σ H Q I h => ?_⟩
  refine PySem.W.methodCall_KW (pl := pl) (thn (he.run pins s σ H _ I h) fun u s1 ⟨x, H1, I1, rx, a, dx, fs, ex, ea, l, q⟩ => ?_) ht
  subst ex
  obtain rfl : u = Value.ref a := rx
  refine getmeth_ok I1 ea c hm l ?_
  refine PySem.W.callWith_K (first := [.ref a]) (h₀ := X.base) I.ok.mod.kin hm.kp (thn (ha.run pos pins s1 σ H1 _ I1 q) fun us s2 ⟨vs, H2, I2, r, q2⟩ => ⟨I2.kIn, ?_⟩) hst hpl
  exact run_fnX (us := .ref a :: us) (vs := .ref a :: vs) F hr hb hd (hx σ) I2 (.cons rfl r) q2
def tMakeX (C : Addr) (sp : Sp) (dvs : List V) (E : L2.St → XK) (t : TA) : TE := fun σ H Q => t σ H fun vs H1 => ∀ x dx, H1 x = none → H1 dx = none → dx ≠ x →
  sp (.ref x :: (vs ++ dvs)) (upd (upd H1 dx (.own x)) x (.ins C dx [])) (fun v H2 => v = .non ∧ Q (.ref x) H2) (E σ)
theorem run_makeX {pins : List (Addr × Obj)} {σ : L2.St} {H : Hp} {s : Shared} {Q : VK} {us : List Value} {vs : List V} (M : Mk X.K C f) (F : FnOk X.prog X.w X.K X.mg X.base CX k f fd ps sp) (hr : Room (k + 1) X.A) (hb : Binds X.K fd ps ds) (hd : Vals dvs ds)
    (hx : PassesAt CX X σ (E σ)) (I : Inv X pins σ H s) (r : Vals vs us)
    (h : ∀ x dx, H x = none → H dx = none → dx ≠ x → sp (.ref x :: (vs ++ dvs)) (upd (upd H dx (.own x)) x (.ins C dx [])) (fun v H2 => v = .non ∧ Q (.ref x) H2) (E σ)) :
    wpAny (model X.prog X.w) X.A (call (.ref C) us) (EP X pins σ Q) X.xe s := by
  have hq := h (s.heap.objs.size + 1) s.heap.objs.size (I.hok.fresh (Nat.le_succ _)) (I.hok.fresh (Nat.le_refl _)) (Nat.ne_of_lt (Nat.lt_succ_self _))
  have I2 := Inv.made (C := C) I
  have r2 : Vals (V.ref (s.heap.objs.size + 1) :: (vs ++ dvs)) (Value.ref (s.heap.objs.size + 1) :: (us ++ ds)) := .cons rfl (r.append hd)
  have hl : (Value.ref (s.heap.objs.size + 1) :: us ++ ds).length = ps.length := by
    have e := r2.length
    rw [F.len _ _ _ _ hq] at e
    exact e.symm
  refine wpAny_call (make_map (f := f) I.kIn M.makes M.init (beq_iff_eq.mp M.fn) (codeAny_mono (F.run _ X.stack _ _ ⟨Value.ref (s.heap.objs.size + 1) :: us, []⟩ (Value.ref (s.heap.objs.size + 1) :: (us ++ ds)) _ _ (E σ) (hr.make C us [])
    (I2.env0.make C us []) (hb _ (Value.ref (s.heap.objs.size + 1) :: us) I2.kIn hl) r2 hq) fun r s' hq' => ?_))
  cases r with
  | error e => exact hx pins _ _ e s' I2 hq'
  | ok fl =>
    cases fl with
    | ret u =>
      obtain ⟨v, H', I3, rv, ev, q3⟩ := I2.after hq'
      subst ev
      exact ⟨rv, ⟨V.ref (s.heap.objs.size + 1), H', I3, rfl, q3⟩⟩
    | next => exact False.elim hq'
    | brk => exact False.elim hq'
    | cont => exact False.elim hq'
theorem pe_makeX (M : Mk X.K C f) (F : FnOk X.prog X.w X.K X.mg X.base CX k f fd ps sp) (hr : Room (k + 1) X.A) (hg : Gl X x) (hm : X.mg x = some (.ref C)) (hb : Binds X.K fd ps ds) (hd : Vals dvs ds) (hx : ∀ σ, PassesAt CX X σ (E σ))
    (ha : PA X (e :: es) t) (hdb : (x == ("__debug__" : Str)) = false := by decide) (he : starEach (e :: es) X.env = (false, eval e X.env) :: starEach es X.env := by rfl) (hpl : (backTo pos (starEach es X.env)).any (·.1) = false := by rfl) :
    PE X (.Call (.Name x p) (e :: es) [] pos) (tMakeX C sp dvs E t) := by
  refine ⟨fun pins s σ H Q I h => ?_⟩
  refine wpAny_Call_Name_kw (ld_glob I hg hm ?_ hdb)
  refine PySem.W.callWith_K (h₀ := X.base) I.ok.mod.kin M.kp (thn (ha.run pos pins s σ H _ I h) fun us s1 ⟨vs, H1, I1, r, q⟩ => ⟨I1.kIn, ?_⟩) he hpl
  exact run_makeX M F hr hb hd (hx σ) I1 r q
end
/-- C.m is a static method: its record at p, its def at g -/
structure SMet (K : PySem.W.Frag) (C : Addr) (mc : Value) (m : Str) (p g : Addr) : Prop where
  rd : PySem.W.readsIn K C mc = true
  ga : PySem.W.specialIn K (.ref C) "__getattribute__" = some (some (.builtin "type.__getattribute__"))
  at_ : PySem.W.findCls K (.ref C) mc m = some (.get (.builtin "staticmethod.__get__") (.ref p) .none (.ref C))
  rc : ∃ rest, PySem.W.recIn K p "staticmethod" = some (.ref g :: rest)
  kp : PySem.W.keepIn K (.ref g) = true
section
variable {X : Cx} {CX : CXT} {k : Nat} {g p C : Addr} {mc : Value} {fd : FuncData} {ps : List Str} {sp : Sp} {dvs : List V} {ds : List Value} {E : XK} {m : Str} {pos apos : Pos} {e o : Expr} {es : List Expr} {ta : TE} {t : TA}
def tSMeth (C : Addr) (sp : Sp) (dvs : List V) (E : XK) (ta : TE) (t : TA) : TE := fun σ H Q => ta σ H fun x H1 => x = .ref C ∧ t σ H1 fun vs H2 => sp (vs ++ dvs) H2 Q E
theorem getsm_ok {pins : List (Addr × Obj)} {σ : L2.St} {H : Hp} {s : Shared} {A : Around} {E : Value → Shared → Prop} {pl : Sem Bool} {Q : Value × List Value → Shared → Prop} (I : Inv X pins σ H s) (r : SMet X.K C mc m p g)
    (h : ∀ s', Inv X pins σ H s' → Q (.ref g, []) s') : wpAny (model X.prog X.w) A (getMethod (.ref C) m pl) Q E s := by
  obtain ⟨rest, hp⟩ := r.rc
  refine PySem.W.method_cls I.kIn r.ga (PySem.W.cls_bind I.kIn r.rd r.at_ ?_)
  exact wpAny_call (PySem.W.sm_get (s := { s with toks := s.toks + 1 }) I.kIn hp (PySem.W.handed_on rfl (h _ (I.tok _))))
theorem pe_smeth {pl : Sem Bool} (he : PE X o ta) (c : SMet X.K C mc m p g) (F : FnOk X.prog X.w X.K X.mg X.base CX k g fd ps sp) (hr : Room k X.A) (hb : Binds X.K fd ps ds) (hd : Vals dvs ds) (hx : Passes CX X E) (ha : PA X (e :: es) t)
    (hst : starEach (e :: es) X.env = (false, eval e X.env) :: starEach es X.env := by rfl) (hpl : (backTo pos (starEach es X.env)).any (·.1) = false := by rfl)
    (ht : eval (.Call (.Attribute o m apos) (e :: es) [] pos) X.env = (do
      let ov ← eval o X.env
      standAt apos.atName
      let (f, first) ← holding [ov] (getMethod ov m pl)
      callWith pos f first (backTo pos (starEach (e :: es) X.env)) (backToKw pos (keywordEach [] X.env))) := by rfl) :
    PE X (.Call (.Attribute o m apos) (e :: es) [] pos) (tSMeth C sp dvs E ta t) := by
  refine ⟨fun pins s σ H Q I h => ?_⟩
  refine PySem.W.methodCall_KW (pl := pl) (thn (he.run pins s σ H _ I h) fun u s1 ⟨x, H1, I1, rx, ex, q⟩ => ?_) ht
  subst ex
  obtain rfl : u = Value.ref C := rx
  refine getsm_ok I1 c fun s2 I2 => ?_
  refine PySem.W.callWith_K (first := []) (h₀ := X.base) I.ok.mod.kin c.kp (thn (ha.run pos pins s2 σ H1 _ I2 q) fun us s3 ⟨vs, H2, I3, rv, q2⟩ => ⟨I3.kIn, ?_⟩) hst hpl
  exact run_fn F hr hb hd hx I3 rv q2
end
end Jv

/-! ### is True, is False of any thing; faults caught by one of two names -/
namespace Jv
open PySem PySem.Spec PyProof.Rows L2
/-- a is b, b True or False -/
def rIsT : R2 := fun x y H Q => ∃ b : Bool, y = .bl b ∧ Q (.bl (decide (x = .bl b))) H
theorem op_isT {X : Cx} : OpR X (compareOp .Is) rIsT := by
  intro pins s σ H x y v u Q I rx ry h
  obtain ⟨b, rfl, q⟩ := h
  cases (show u = Value.bool b from ry)
  by_cases e : x = .bl b
  · subst e
    cases (show v = Value.bool b from rx)
    exact wpAny_is_self rfl ⟨.bl true, H, I, rfl, by simpa using q⟩
  · have e2 : decide (x = .bl b) = false := decide_eq_false e
    rw [e2] at q
    refine wpAny_is_other ?_ ?_ ⟨.bl false, H, I, rfl, q⟩
    · cases x <;> first
        | (cases rx; rfl)
        | (obtain ⟨t, rfl⟩ := rx; rfl)
    · intro z
      cases x with
      | bl c => cases (show v = Value.bool c from rx); exact e (by cases z; rfl)
      | non => cases rx; cases z
      | int i => obtain ⟨t, rfl⟩ := rx; cases z
      | str i => obtain ⟨t, rfl⟩ := rx; cases z
      | byt i => obtain ⟨t, rfl⟩ := rx; cases z
      | flt i => obtain ⟨t, rfl⟩ := rx; cases z
      | ref a => cases (show v = Value.ref a from rx); cases z
      | ty a => cases (show v = Value.type a from rx); cases z
end Jv

/-! ### sequences that stand or are the program's own; walks, comprehensions over them; data's answers -/
namespace Jv
open PySem PySem.Spec PyProof.Rows L2
def Sk (K : PySem.W.Frag) (H : Hp) (x : V) (xs : List V) : Prop := ∃ a, x = .ref a ∧ (SqL K H a xs ∨ SqT K H a xs)
section
variable {K : PySem.W.Frag} {σ : L2.St} {H H' : Hp} {te : TE} {Q : VK} {xs : List V} {ds : List PyData} {j i : Nat} {x v : V} {d : PyData}
theorem Sk.same (h : Sk K H x xs) (s : Same H H') : Sk K H' x xs := by
  obtain ⟨a, rfl, h | h⟩ := h
  · exact ⟨a, rfl, .inl (s.seq h)⟩
  · exact ⟨a, rfl, .inr (Jv.Same.sqT s h)⟩
theorem Dv.sk (h : Dv K H v d) (e : seqD d = some ds) : ∃ xs, Sk K H v xs ∧ DvAll K H xs ds := by
  obtain ⟨a, xs, e1, e2, e3⟩ := h.seq e
  exact ⟨xs, ⟨a, e1, e2⟩, e3⟩
theorem Sk.len (h : Sk K H x xs) (q : Q (.int xs.length) H) : rLenK K [x] H Q := by
  obtain ⟨a, rfl, h⟩ := h
  exact r_len h q
theorem Sk.ix (h : Sk K H x xs) {k : Int} {v : V} (e : atI xs k = some v) (q : Q v H) : rIx K x (.int k) H Q := by
  obtain ⟨a, rfl, h | h⟩ := h
  · exact .inl (r_ixL h e q)
  · exact .inr (.inl (r_ixT h e q))
/-- over a name that holds a list or a tuple -/
theorem lcK (hv : σ[i]? = some (some x)) (hx : Sk K H x xs) (f : V → V) (few : xs.length ≤ 1000)
    (hs : ∀ v H1, v ∈ xs → Same H H1 → ∀ P : VK, (∀ H2, Same H1 H2 → P (f v) H2) → te ((σ.set j none).set j (some v)) H1 P)
    (hd : ∀ D H1, Same H H1 → H D = none → H1 D = some (.lst (xs.map f)) → Q (.ref D) H1) : tLc (fun σ H R => iList K (tVar i) σ H R ∨ iTup K (tVar i) σ H R) (gName j) tYes te [j] σ H Q := by
  obtain ⟨a, rfl, h | h⟩ := hx
  · exact .inl (lcL hv h f few hs hd)
  · exact .inr (lcT hv h f few hs hd)
theorem Sk.tup (h : Sk K H x xs) (q : ∀ (t : Addr) (H' : Hp), Same H H' → SqT K H' t xs → Q (.ref t) H') : rTupOf K [x] H Q := by
  obtain ⟨a, rfl, h | h⟩ := h
  · exact ⟨a, _, rfl, .inl ⟨h, fun l hl => q l _ (same_new hl) (sqT_at upd_same)⟩⟩
  · exact ⟨a, _, rfl, .inr ⟨h, q a _ (Same.refl _) h⟩⟩
end
def few1 (d : PyData) : Prop := ∀ ds, seqD d = some ds → ds.length ≤ 100
def few2 (d : PyData) : Prop := ∀ ds, seqD d = some ds → ds.length ≤ 100 ∧ ∀ e ∈ ds, few1 e
def few3 (d : PyData) : Prop := ∀ ds, seqD d = some ds → ds.length ≤ 100 ∧ ∀ e ∈ ds, few2 e
theorem DvAll.mem {K : PySem.W.Frag} {H : Hp} : ∀ {vs : List V} {ds : List PyData} {v : V}, DvAll K H vs ds → v ∈ vs → ∃ d ∈ ds, Dv K H v d
  | _, _, _, .nil, m => by cases m
  | _, _, _, .cons a b, m => by
    rcases List.mem_cons.mp m with rfl | m
    · exact ⟨_, List.mem_cons_self, a⟩
    · obtain ⟨d, h1, h2⟩ := DvAll.mem b m
      exact ⟨d, List.mem_cons_of_mem _ h1, h2⟩
theorem Dv.whole {K : PySem.W.Frag} {H : Hp} {v lo hi : V} {d : PyData} (h : Dv K H v d) : wholeV v lo hi = wholeD d lo hi := by
  cases h <;> rfl
/-- a function of things that goes by what they are -/
theorem DvAll.all {K : PySem.W.Frag} {H : Hp} {f : V → Bool} {g : PyData → Bool} (e : ∀ v d, Dv K H v d → f v = g d) : ∀ {vs : List V} {ds : List PyData}, DvAll K H vs ds → vs.all f = ds.all g
  | _, _, .nil => rfl
  | _, _, .cons a b => by rw [List.all_cons, List.all_cons, e _ _ a, DvAll.all e b]
def sidesD (d : PyData) : Bool := match seqD d with
  | some [.int p, .int q] => decide ((1 ≤ p ∧ p ≤ 6) ∧ (1 ≤ q ∧ q ≤ 6) ∧ p * q ≤ 12)
  | _ => false
def endsD (l : Int) (d : PyData) : Bool := match seqD d with
  | some ds => decide (0 < ds.length) && ds.all fun e => wholeD e (.int (-l)) (.int l)
  | none => false
def knowsD (d : PyData) : Bool := match seqD d with
  | some ds => decide (ds.length = 2) && ds.all boolD
  | none => false
theorem boolD_iff {K : PySem.W.Frag} {H : Hp} {v : V} {d : PyData} (h : Dv K H v d) : (decide (v = .bl true) || decide (v = .bl false)) = boolD d := by
  cases h with
  | bl b => cases b <;> rfl
  | _ => rfl
theorem wholeD_int {d : PyData} {l h : Int} : wholeD d (.int l) (.int h) = true → ∃ i, d = .int i ∧ l ≤ i ∧ i ≤ h := by
  intro q
  cases d with
  | int i => simp [wholeD, loOk, hiOk] at q; exact ⟨i, rfl, q⟩
  | _ => cases q
/-- how many lines, how long -/
def linesD (d : PyData) : Option (Nat × Nat) := match seqD d with
  | none => none
  | some ds => if ds.all (fun e => (seqD e).isSome) = true then
      match ds.map (fun e => ((seqD e).getD []).length) with
      | [] => none
      | n :: ns => if ns.all (fun m => decide (m = n)) = true then some (ns.length + 1, n) else none
    else none
end Jv

/-! ### comprehensions whose results are data; the lists under way hidden -/
namespace Jv
open PySem PySem.Spec PyProof.Rows L2
def hide (N : List Addr) (H : Hp) : Hp := fun b => if b ∈ N then none else H b
theorem hide_nil {H : Hp} : hide [] H = H := by funext b; simp [hide]
theorem hide_at {N : List Addr} {H : Hp} {b : Addr} {o : HO} (n : b ∉ N) (h : H b = some o) : hide N H b = some o := by unfold hide; rw [if_neg n]; exact h
theorem hide_some {N : List Addr} {H : Hp} {b : Addr} {o : HO} (h : hide N H b = some o) : b ∉ N ∧ H b = some o := by
  unfold hide at h
  by_cases n : b ∈ N
  · rw [if_pos n] at h; cases h
  · rw [if_neg n] at h; exact ⟨n, h⟩
theorem hide_le {N : List Addr} {H : Hp} : Same (hide N H) H := fun _ _ e => (hide_some e).2
theorem hide_same {N : List Addr} {H H' : Hp} (s : Same H H') : Same (hide N H) (hide N H') := fun _ _ e => hide_at (hide_some e).1 (s _ _ (hide_some e).2)
theorem hide_more {N : List Addr} {H H' : Hp} {D : Addr} (s : Same H H') (n : H D = none) : Same (hide N H) (hide (D :: N) H') := fun b o e => by
  obtain ⟨h1, h2⟩ := hide_some e
  refine hide_at (fun m => ?_) (s _ _ h2)
  rcases List.mem_cons.mp m with rfl | m
  · rw [n] at h2; cases h2
  · exact h1 m
theorem hide_less {N : List Addr} {H : Hp} {D : Addr} : Same (hide (D :: N) H) (hide N H) := fun b o e => by
  obtain ⟨h1, h2⟩ := hide_some e
  exact hide_at (fun m => h1 (List.mem_cons_of_mem _ m)) h2
theorem hide_upd {N : List Addr} {H : Hp} {D : Addr} {o : HO} : hide (D :: N) (upd H D o) = hide (D :: N) H := by
  funext b
  unfold hide
  by_cases m : b ∈ D :: N
  · rw [if_pos m, if_pos m]
  · rw [if_neg m, if_neg m]
    exact upd_ne fun e => m (by rw [e]; exact List.mem_cons_self)
def Held (N : List Addr) (H : Hp) : Prop := ∀ b ∈ N, ∃ o, H b = some o
theorem Held.nil {H : Hp} : Held [] H := fun _ h => by cases h
theorem Held.same {N : List Addr} {H H' : Hp} (h : Held N H) (s : Same H H') : Held N H' := fun b m => let ⟨o, e⟩ := h b m; ⟨o, s _ _ e⟩
theorem Held.cons {N : List Addr} {H : Hp} {D : Addr} {o : HO} (h : Held N H) (e : H D = some o) : Held (D :: N) H := fun b m => by
  rcases List.mem_cons.mp m with rfl | m
  · exact ⟨_, e⟩
  · exact h b m
theorem Held.new {N : List Addr} {H : Hp} {t : Addr} (h : Held N H) (n : H t = none) : t ∉ N := fun m => by
  obtain ⟨o, e⟩ := h t m
  rw [n] at e; cases e
section
variable {K : PySem.W.Frag} {σ : L2.St} {H : Hp} {te : TE} {tt : TT} {Q : VK} {xs : List V} {es : List PyData} {j i n : Nat} {x : V} {N : List Addr} {J : It} {G : Hp → Prop} {Y : Nat → Hp → V → Hp → Prop} {F : Nat → V → Prop}
theorem lcD (w : Walk J n G Y) (hG : ∀ H', Same H H' → G H') (hy : ∀ i H x H', i < n → Y i H x H' → H' = H ∧ F i x) (hN : Held N H) (es : List PyData) (hl : es.length = n) (few : n ≤ 1000)
    (hs : ∀ i v e D H1, i < n → F i v → es[i]? = some e → Same H H1 → Held (D :: N) H1 → H D = none → ∀ P : VK, (∀ y H2, Same H1 H2 → Dv K (hide (D :: N) H2) y e → P y H2) → te ((σ.set j none).set j (some v)) H1 P)
    (hd : ∀ D ys H1, Same H H1 → H D = none → H1 D = some (.lst ys) → DvAll K (hide N H1) ys es → DvAll K (hide (D :: N) H1) ys es → Q (.ref D) H1) : ∀ D, H D = none → ∃ W : Nat → Nat → Hp → Prop, (∃ m, W 0 m (upd H D (.lst []))) ∧ ∀ i m H, W i m H →
      (J.stop i H ∧ Q (.ref D) H) ∨ (J.go i H ∧ ∃ Nx : Hp → Prop, (∀ H', Nx H' → ∃ m', m' < m ∧ W (i + 1) m' H') ∧ ∀ x H', J.yld i H x H' → gName j x (wipe σ [j]) H' fun σ2 H2 => wipe σ2 [j] = wipe σ [j] ∧ tYes σ2 H2 fun b H3 =>
        if b = true then te σ2 H3 fun y H4 => ∃ acc, H4 D = some (.lst acc) ∧ acc.length < sizeLine ∧ Nx (upd H4 D (.lst (acc ++ [y]))) else Nx H3) := by
  intro D hD
  refine lc_it w (fun i H1 => Same H H1 ∧ ∃ ys, H1 D = some (.lst ys) ∧ DvAll K (hide (D :: N) H1) ys (es.take i)) ⟨same_new hD, [], upd_same, .nil⟩ (fun i H1 _ h => hG H1 h.1) ?_ ?_
  · rintro i x H1 H2 hi ⟨s1, ys, e1, al⟩ hx
    obtain ⟨e0, hF⟩ := hy i _ _ _ hi hx
    subst e0
    refine ⟨wipe1, ?_⟩
    refine r_yes ?_
    refine r_true (c := true) rfl ?_
    have hie : i < es.length := by omega
    have he := List.getElem?_eq_getElem hie
    refine hs i x _ D _ hi hF he s1 ((hN.same s1).cons e1) hD _ fun y H3 s3 dy => ⟨_, s3 _ _ e1, ?_, ?_, _, upd_same, ?_⟩
    · rw [al.len, List.length_take]; exact small_lt (by omega)
    · intro b o e; exact kpO (s3 _ _ (s1 b o e)) (ne_of_none e hD)
    · rw [hide_upd, take_more he]
      exact DvAll.snoc dy (al.same (hide_same s3))
  · rintro H1 ⟨s1, ys, e1, al⟩
    rw [List.take_of_length_le (by omega)] at al
    exact hd D ys H1 s1 hD e1 (al.same hide_less) al
theorem yat {xs : List V} : ∀ (i : Nat) (H : Hp) (x : V) (H' : Hp), i < xs.length → YAt xs i H x H' → H' = H ∧ xs[i]? = some x := fun _ _ _ _ _ h => h
theorem yfn {f : Nat → V} {n : Nat} : ∀ (i : Nat) (H : Hp) (x : V) (H' : Hp), i < n → YFn f i H x H' → H' = H ∧ x = f i := fun _ _ _ _ _ h => h
/-- over a name that holds a list or a tuple; the results' data by the data's -/
theorem lcS2 (hv : σ[i]? = some (some x)) (hx : Sk K H x xs) (hN : Held N H) (es : List PyData) (hl : es.length = xs.length) (few : xs.length ≤ 1000)
    (hs : ∀ i v e D H1, i < xs.length → xs[i]? = some v → es[i]? = some e → Same H H1 → Held (D :: N) H1 → H D = none → ∀ P : VK, (∀ y H2, Same H1 H2 → Dv K (hide (D :: N) H2) y e → P y H2) → te ((σ.set j none).set j (some v)) H1 P)
    (hd : ∀ D ys H1, Same H H1 → H D = none → H1 D = some (.lst ys) → DvAll K (hide N H1) ys es → DvAll K (hide (D :: N) H1) ys es → Q (.ref D) H1) : tLc (fun σ H R => iList K (tVar i) σ H R ∨ iTup K (tVar i) σ H R) (gName j) tYes te [j] σ H Q := by
  obtain ⟨a, rfl, h | h⟩ := hx
  · exact .inl ⟨_, hv, a, rfl, ⟨xs, h⟩, lcD walk_list (fun H' s => s.seq h) yat hN es hl few hs hd⟩
  · exact .inr ⟨_, hv, a, rfl, ⟨xs, h⟩, lcD walk_tup (fun H' s => Jv.Same.sqT s h) yat hN es hl few hs hd⟩
end
/-- results that are truths -/
theorem dv_bools {K : PySem.W.Frag} {H : Hp} : ∀ {ys : List V} {bs : List Bool}, DvAll K H ys (bs.map PyData.bool) → ys = bs.map V.bl
  | [], [], _ => rfl
  | _, b :: bs, .cons (.bl _) r => by rw [dv_bools r]; rfl
theorem dv_intsV {K : PySem.W.Frag} {H : Hp} : ∀ {ys : List V} {ns : List Int}, DvAll K H ys (ns.map PyData.int) → ys = ns.map V.int
  | [], [], _ => rfl
  | _, b :: bs, .cons (.int _) r => by rw [dv_intsV r]; rfl
end Jv

/-! ### comprehensions of two walks over data -/
namespace Jv
open PySem PySem.Spec PyProof.Rows L2
def rowG (g : PyData → PyData) (r : PyData) : List PyData := ((seqD r).getD []).map g
def upTo (g : PyData → PyData) (ds : List PyData) (m n : Nat) : List PyData := (ds.take m).flatMap (rowG g) ++ (((ds[m]?.map (rowG g)).getD []).take n)
theorem upTo_more {g : PyData → PyData} {ds : List PyData} {m n : Nat} {r d : PyData} {l : List PyData} (hr : ds[m]? = some r) (hl : seqD r = some l) (hd : l[n]? = some d) : upTo g ds m (n + 1) = upTo g ds m n ++ [g d] := by
  unfold upTo
  rw [hr, List.append_assoc]
  congr 1
  show (rowG g r).take (n + 1) = (rowG g r).take n ++ [g d]
  refine take_more ?_
  unfold rowG
  rw [hl]
  show (l.map g)[n]? = _
  rw [List.getElem?_map, hd]; rfl
theorem upTo_next {g : PyData → PyData} {ds : List PyData} {m : Nat} {r : PyData} {l : List PyData} (hr : ds[m]? = some r) (hl : seqD r = some l) : upTo g ds m l.length = upTo g ds (m + 1) 0 := by
  unfold upTo
  rw [hr, take_more hr, List.flatMap_append]
  have : (rowG g r).take l.length = rowG g r := by
    unfold rowG; rw [hl]
    exact List.take_of_length_le (by show (l.map g).length ≤ _; rw [List.length_map]; exact Nat.le_refl _)
  show _ ++ (rowG g r).take l.length = _
  rw [this]
  simp
theorem upTo_end {g : PyData → PyData} {ds : List PyData} : upTo g ds ds.length 0 = ds.flatMap (rowG g) := by
  unfold upTo
  simp
theorem flat_len {f : PyData → List PyData} : ∀ {l : List PyData}, (∀ e ∈ l, (f e).length ≤ 100) → (l.flatMap f).length ≤ l.length * 100
  | [], _ => by simp
  | a :: r, h => by
    have h1 := h a List.mem_cons_self
    have h2 := flat_len (l := r) fun e m => h e (List.mem_cons_of_mem _ m)
    rw [List.flatMap_cons, List.length_append, List.length_cons, Nat.succ_mul]; omega
section
variable {K : PySem.W.Frag} {σ : L2.St} {H : Hp} {te : TE} {Q : VK} {xs : List V} {ds : List PyData} {i a b : Nat} {x : V} {N : List Addr}
theorem lc2W {J : It} {G : Hp → Prop} (w : Walk J xs.length G (YAt xs)) (hG : ∀ H', Same H H' → G H') (al : DvAll K H xs ds) (hN : Held N H) (g : PyData → PyData)
    (hq : ∀ e ∈ ds, ∃ l, seqD e = some l ∧ l.length ≤ 100) (few : ds.length ≤ 100)
    (w1 : ∀ v, wipe ((wipe σ [a, b]).set a (some v)) [a, b] = wipe σ [a, b])
    (w2 : ∀ v u, wipe ((wipe ((wipe σ [a, b]).set a (some v)) [b]).set b (some u)) [b] = wipe ((wipe σ [a, b]).set a (some v)) [b])
    (ha : ∀ v, ((wipe σ [a, b]).set a (some v))[a]? = some (some v))
    (hs : ∀ v u d D H1, Dv K H1 u d → (∃ e ∈ ds, ∃ l, seqD e = some l ∧ d ∈ l) → Same H H1 → Held (D :: N) H1 → H D = none → ∀ P : VK, (∀ y H2, Same H1 H2 → Dv K (hide (D :: N) H2) y (g d) → P y H2) → te ((wipe ((wipe σ [a, b]).set a (some v)) [b]).set b (some u)) H1 P)
    (hd : ∀ D ys H1, Same H H1 → H D = none → H1 D = some (.lst ys) → DvAll K (hide N H1) ys (ds.flatMap (rowG g)) → Q (.ref D) H1) :
    ∀ D, H D = none → ∃ W : Nat → Nat → Hp → Prop, (∃ m, W 0 m (upd H D (.lst []))) ∧ ∀ i m H, W i m H →
      (J.stop i H ∧ Q (.ref D) H) ∨ (J.go i H ∧ ∃ Nx : Hp → Prop, (∀ H', Nx H' → ∃ m', m' < m ∧ W (i + 1) m' H') ∧ ∀ x H', J.yld i H x H' → gName a x (wipe σ [a, b]) H' fun σ2 H2 => wipe σ2 [a, b] = wipe σ [a, b] ∧ tYes σ2 H2 fun c H3 =>
        if c = true then (iList K (tVar a) σ2 H3 fun J1 H4 => ∃ W1 : Nat → Nat → Hp → Prop, (∃ m, W1 0 m H4) ∧ ∀ j k H, W1 j k H →
          (J1.stop j H ∧ Nx H) ∨ (J1.go j H ∧ ∃ Nx1 : Hp → Prop, (∀ H', Nx1 H' → ∃ k', k' < k ∧ W1 (j + 1) k' H') ∧ ∀ x H', J1.yld j H x H' → gName b x (wipe σ2 [b]) H' fun σ3 H5 => wipe σ3 [b] = wipe σ2 [b] ∧ tYes σ3 H5 fun c H6 =>
            if c = true then te σ3 H6 fun y H7 => ∃ acc, H7 D = some (.lst acc) ∧ acc.length < sizeLine ∧ Nx1 (upd H7 D (.lst (acc ++ [y]))) else Nx1 H6)) ∨ (iTup K (tVar a) σ2 H3 fun J1 H4 => ∃ W1 : Nat → Nat → Hp → Prop, (∃ m, W1 0 m H4) ∧ ∀ j k H, W1 j k H →
          (J1.stop j H ∧ Nx H) ∨ (J1.go j H ∧ ∃ Nx1 : Hp → Prop, (∀ H', Nx1 H' → ∃ k', k' < k ∧ W1 (j + 1) k' H') ∧ ∀ x H', J1.yld j H x H' → gName b x (wipe σ2 [b]) H' fun σ3 H5 => wipe σ3 [b] = wipe σ2 [b] ∧ tYes σ3 H5 fun c H6 =>
            if c = true then te σ3 H6 fun y H7 => ∃ acc, H7 D = some (.lst acc) ∧ acc.length < sizeLine ∧ Nx1 (upd H7 D (.lst (acc ++ [y]))) else Nx1 H6))
        else Nx H3) := by
  intro D hD
  have hlen := al.len
  have bound : ∀ m n, (upTo g ds m n).length < 20000 := by
    intro m n
    unfold upTo
    rw [List.length_append, List.length_take]
    have row : ∀ e ∈ ds, (rowG g e).length ≤ 100 := fun e he => by
      obtain ⟨l, h1, h2⟩ := hq e he
      unfold rowG; rw [h1]; show (l.map g).length ≤ 100; rw [List.length_map]; exact h2
    have h1 := flat_len (f := rowG g) (l := ds.take m) fun e he => row e (List.mem_of_mem_take he)
    have h2 : (ds.take m).length ≤ 100 := by rw [List.length_take]; omega
    have h3 : ((ds[m]?.map (rowG g)).getD []).length ≤ 100 := by
      cases e : ds[m]? with
      | none => simp
      | some r => exact row r (List.mem_of_getElem? e)
    omega
  refine ⟨fun m k H1 => k = xs.length - m ∧ m ≤ xs.length ∧ Same H H1 ∧ ∃ ys, H1 D = some (.lst ys) ∧ DvAll K (hide (D :: N) H1) ys (upTo g ds m 0), ⟨xs.length, by omega, by omega, same_new hD, [], upd_same, by unfold upTo; simp; exact .nil⟩, ?_⟩
  rintro m k H1 ⟨rfl, hm, s1, ys, e1, dv⟩
  by_cases lt : m < xs.length
  · refine .inr ⟨w.goes m H1 lt (hG _ s1), fun H' => Same H H' ∧ ∃ ys, H' D = some (.lst ys) ∧ DvAll K (hide (D :: N) H') ys (upTo g ds (m + 1) 0), fun H' h => ⟨xs.length - (m + 1), by omega, rfl, lt, h⟩, ?_⟩
    rintro v H2 hv0
    obtain ⟨e2, hv⟩ := w.yields m H1 v H2 lt (hG _ s1) hv0
    subst e2
    obtain ⟨r, hr, dr⟩ := al.at hv
    have hrm := List.mem_of_getElem? hr
    obtain ⟨l, hl, fl⟩ := hq r hrm
    refine ⟨w1 _, r_yes (r_true (c := true) rfl ?_)⟩
    obtain ⟨us, ⟨p, ep, hp⟩, du⟩ := dr.sk hl
    subst ep
    have hul := du.len
    have core : ∀ (J1 : It) (G1 : Hp → Prop), Walk J1 us.length G1 (YAt us) → (∀ H', Same H H' → G1 H') → ∃ W1 : Nat → Nat → Hp → Prop, (∃ m, W1 0 m H2) ∧ ∀ j k H5, W1 j k H5 →
        (J1.stop j H5 ∧ (Same H H5 ∧ ∃ ys, H5 D = some (.lst ys) ∧ DvAll K (hide (D :: N) H5) ys (upTo g ds (m + 1) 0))) ∨ (J1.go j H5 ∧ ∃ Nx1 : Hp → Prop, (∀ H', Nx1 H' → ∃ k', k' < k ∧ W1 (j + 1) k' H') ∧ ∀ x H', J1.yld j H5 x H' → gName b x (wipe ((wipe σ [a, b]).set a (some (.ref p))) [b]) H' fun σ3 H5 => wipe σ3 [b] = wipe ((wipe σ [a, b]).set a (some (.ref p))) [b] ∧ tYes σ3 H5 fun c H6 =>
          if c = true then te σ3 H6 fun y H7 => ∃ acc, H7 D = some (.lst acc) ∧ acc.length < sizeLine ∧ Nx1 (upd H7 D (.lst (acc ++ [y]))) else Nx1 H6) := by
      intro J1 G1 wk hG1
      refine ⟨fun j k H5 => k = us.length - j ∧ j ≤ us.length ∧ Same H H5 ∧ ∃ ys, H5 D = some (.lst ys) ∧ DvAll K (hide (D :: N) H5) ys (upTo g ds m j), ⟨us.length, by omega, by omega, s1, ys, e1, dv⟩, ?_⟩
      rintro j k H5 ⟨rfl, hj, s5, zs, e5, dz⟩
      by_cases lt2 : j < us.length
      · refine .inr ⟨wk.goes j H5 lt2 (hG1 _ s5), fun H' => Same H H' ∧ ∃ ys, H' D = some (.lst ys) ∧ DvAll K (hide (D :: N) H') ys (upTo g ds m (j + 1)), fun H' h => ⟨us.length - (j + 1), by omega, rfl, lt2, h⟩, ?_⟩
        rintro u H6 hu0
        obtain ⟨e6, hu⟩ := wk.yields j H5 u H6 lt2 (hG1 _ s5) hu0
        subst e6
        obtain ⟨d, hd1, dd⟩ := du.at hu
        refine ⟨w2 _ _, r_yes (r_true (c := true) rfl ?_)⟩
        refine hs _ _ d D _ (dd.same s5) ⟨r, hrm, l, hl, List.mem_of_getElem? hd1⟩ s5 ((hN.same s5).cons e5) hD _ fun y H7 s7 dy => ⟨_, s7 _ _ e5, ?_, ?_, _, upd_same, ?_⟩
        · rw [dz.len]
          exact Nat.lt_of_lt_of_le (bound m j) (by decide)
        · intro c o hc; exact kpO (s7 _ _ (s5 c o hc)) (ne_of_none hc hD)
        · rw [hide_upd, upTo_more hr hl hd1]
          exact DvAll.snoc dy (dz.same (hide_same s7))
      · have ej : j = l.length := by omega
        subst ej
        refine .inl ⟨by rw [← hul]; exact wk.stops H5 (hG1 _ s5), s5, zs, e5, ?_⟩
        rw [← upTo_next hr hl]; exact dz
    rcases hp with hp | hp
    · exact .inl ⟨_, ha _, p, rfl, ⟨us, s1.seq hp⟩, core _ _ walk_list fun H' s => s.seq hp⟩
    · exact .inr ⟨_, ha _, p, rfl, ⟨us, Jv.Same.sqT s1 hp⟩, core _ _ walk_tup fun H' s => Jv.Same.sqT s hp⟩
  · have em : m = xs.length := by omega
    subst em
    refine .inl ⟨w.stops H1 (hG _ s1), hd D ys H1 s1 hD e1 ?_⟩
    rw [hlen, upTo_end] at dv
    exact dv.same hide_less
theorem lc2D (hv : σ[i]? = some (some x)) (hx : Sk K H x xs) (al : DvAll K H xs ds) (hN : Held N H) (g : PyData → PyData)
    (hq : ∀ e ∈ ds, ∃ l, seqD e = some l ∧ l.length ≤ 100) (few : ds.length ≤ 100)
    (w1 : ∀ v, wipe ((wipe σ [a, b]).set a (some v)) [a, b] = wipe σ [a, b])
    (w2 : ∀ v u, wipe ((wipe ((wipe σ [a, b]).set a (some v)) [b]).set b (some u)) [b] = wipe ((wipe σ [a, b]).set a (some v)) [b])
    (ha : ∀ v, ((wipe σ [a, b]).set a (some v))[a]? = some (some v))
    (hs : ∀ v u d D H1, Dv K H1 u d → (∃ e ∈ ds, ∃ l, seqD e = some l ∧ d ∈ l) → Same H H1 → Held (D :: N) H1 → H D = none → ∀ P : VK, (∀ y H2, Same H1 H2 → Dv K (hide (D :: N) H2) y (g d) → P y H2) → te ((wipe ((wipe σ [a, b]).set a (some v)) [b]).set b (some u)) H1 P)
    (hd : ∀ D ys H1, Same H H1 → H D = none → H1 D = some (.lst ys) → DvAll K (hide N H1) ys (ds.flatMap (rowG g)) → Q (.ref D) H1) :
    tLc2 (fun σ H R => iList K (tVar i) σ H R ∨ iTup K (tVar i) σ H R) (gName a) tYes (fun σ H R => iList K (tVar a) σ H R ∨ iTup K (tVar a) σ H R) (gName b) tYes te [a, b] [b] σ H Q := by
  obtain ⟨p, rfl, h | h⟩ := hx
  · exact .inl ⟨_, hv, p, rfl, ⟨xs, h⟩, lc2W walk_list (fun H' s => s.seq h) al hN g hq few w1 w2 ha hs hd⟩
  · exact .inr ⟨_, hv, p, rfl, ⟨xs, h⟩, lc2W walk_tup (fun H' s => Jv.Same.sqT s h) al hN g hq few w1 w2 ha hs hd⟩
end
end Jv

/-! ### data beside an object's change; readings of fields -/
namespace Jv
open PySem PySem.Spec PyProof.Rows L2
section
variable {K : PySem.W.Frag} {H : Hp} {a C dx : Addr} {fs : List (Str × V)} {o : HO}
theorem SqT.ins (ha : H a = some (.ins C dx fs)) {b : Addr} {xs : List V} (h : SqT K H b xs) : SqT K (upd H a o) b xs := by
  rcases h with (h | ⟨u, h⟩) | h
  · exact .inl (.inl (kpO h fun e => by rw [e, ha] at h; cases h))
  · exact .inl (.inr ⟨u, kpO h fun e => by rw [e, ha] at h; cases h⟩)
  · exact .inr h
mutual
theorem Dv.ins (ha : H a = some (.ins C dx fs)) : ∀ {v : V} {d : PyData}, Dv K H v d → Dv K (upd H a o) v d
  | _, _, .non => .non
  | _, _, .bl b => .bl b
  | _, _, .int i => .int i
  | _, _, .str x => .str x
  | _, _, .lst h q => .lst (kpO h fun e => by rw [e, ha] at h; cases h) (DvAll.ins ha q)
  | _, _, .tup h q => .tup (Jv.SqT.ins ha h) (DvAll.ins ha q)
theorem DvAll.ins (ha : H a = some (.ins C dx fs)) : ∀ {vs : List V} {ds : List PyData}, DvAll K H vs ds → DvAll K (upd H a o) vs ds
  | _, _, .nil => .nil
  | _, _, .cons x y => .cons (Dv.ins ha x) (DvAll.ins ha y)
end
theorem r_sfld {ta tv : TE} {f : Str} {D : Ends} {σ : L2.St} (h : tv σ H fun y H1 => ta σ H1 fun x H2 => ∃ a C dx fs, x = .ref a ∧ H2 a = some (.ins C dx fs) ∧ Cls K C ∧ NoAttr K C f ∧ fs.length < 1000 ∧
  D.nx σ (upd H2 a (.ins C dx (putF f y fs)))) : sFld K ta tv f D σ H := h
theorem r_fld {ta : TE} {f : Str} {σ : L2.St} {Q : VK} (h : ta σ H fun x H1 => ∃ a C dx fs v, x = .ref a ∧ H1 a = some (.ins C dx fs) ∧ Cls K C ∧ NoAttr K C f ∧ fs.lookup f = some v ∧ Q v H1) : tFld K ta f σ H Q := h
end
/-- a new tuple of data -/
theorem dv_new {K : PySem.W.Frag} {H : Hp} {N : List Addr} {t : Addr} {xs : List V} {ds : List PyData} (n : H t = none) (hN : Held N H) (h : DvAll K (hide N H) xs ds) : Dv K (hide N (upd H t (.tup xs))) (.ref t) (.tuple ds) :=
  .tup (sqT_at (hide_at (hN.new n) upd_same)) (h.same (hide_same (same_new n)))
theorem dv_newL {K : PySem.W.Frag} {H : Hp} {N : List Addr} {t : Addr} {xs : List V} {ds : List PyData} (n : H t = none) (hN : Held N H) (h : DvAll K (hide N H) xs ds) : Dv K (hide N (upd H t (.lst xs))) (.ref t) (.list ds) :=
  .lst (hide_at (hN.new n) upd_same) (h.same (hide_same (same_new n)))
end Jv

/-! ### comprehensions over what an expression gives; filters of numbers -/
namespace Jv
open PySem PySem.Spec PyProof.Rows L2
section
variable {K : PySem.W.Frag} {σ : L2.St} {H : Hp} {te te0 : TE} {tt : TT} {Q : VK} {xs : List V} {es : List PyData} {j i n : Nat} {x : V} {N : List Addr}
theorem lcS3 (hit : ∀ P : VK, P x H → te0 σ H P) (hx : Sk K H x xs) (hN : Held N H) (es : List PyData) (hl : es.length = xs.length) (few : xs.length ≤ 1000)
    (hs : ∀ i v e D H1, i < xs.length → xs[i]? = some v → es[i]? = some e → Same H H1 → Held (D :: N) H1 → H D = none → ∀ P : VK, (∀ y H2, Same H1 H2 → Dv K (hide (D :: N) H2) y e → P y H2) → te ((σ.set j none).set j (some v)) H1 P)
    (hd : ∀ D ys H1, Same H H1 → H D = none → H1 D = some (.lst ys) → DvAll K (hide N H1) ys es → DvAll K (hide (D :: N) H1) ys es → Q (.ref D) H1) : tLc (fun σ H R => iList K te0 σ H R ∨ iTup K te0 σ H R) (gName j) tYes te [j] σ H Q := by
  obtain ⟨a, rfl, h | h⟩ := hx
  · exact .inl (hit _ ⟨a, rfl, ⟨xs, h⟩, lcD walk_list (fun H' s => s.seq h) yat hN es hl few hs hd⟩)
  · exact .inr (hit _ ⟨a, rfl, ⟨xs, h⟩, lcD walk_tup (fun H' s => Jv.Same.sqT s h) yat hN es hl few hs hd⟩)
theorem filter_more {f : Int → Bool} {ns : List Int} {i : Nat} {z : Int} (h : ns[i]? = some z) : (ns.take (i + 1)).filter f = (ns.take i).filter f ++ if f z = true then [z] else [] := by
  rw [take_more h, List.filter_append]
  congr 1
  by_cases c : f z = true
  · simp [c]
  · simp [c]
/-- the numbers of a list or a tuple at which a test holds -/
theorem lcFW {J : It} {G : Hp → Prop} {ns : List Int} (w : Walk J (ns.map V.int).length G (YAt (ns.map V.int))) (hG : ∀ H', Same H H' → G H') (f : Int → Bool) (few : ns.length ≤ 1000)
    (ht : ∀ z H1, z ∈ ns → Same H H1 → ∀ R : Bool → Hp → Prop, (∀ H2, Same H1 H2 → R (f z) H2) → tt ((σ.set j none).set j (some (.int z))) H1 R)
    (hs : ∀ z H1, ∀ P : VK, P (.int z) H1 → te ((σ.set j none).set j (some (.int z))) H1 P)
    (hd : ∀ D H1, Same H H1 → H D = none → H1 D = some (.lst ((ns.filter f).map V.int)) → Q (.ref D) H1) : ∀ D, H D = none → ∃ W : Nat → Nat → Hp → Prop, (∃ m, W 0 m (upd H D (.lst []))) ∧ ∀ i m H, W i m H →
      (J.stop i H ∧ Q (.ref D) H) ∨ (J.go i H ∧ ∃ Nx : Hp → Prop, (∀ H', Nx H' → ∃ m', m' < m ∧ W (i + 1) m' H') ∧ ∀ x H', J.yld i H x H' → gName j x (wipe σ [j]) H' fun σ2 H2 => wipe σ2 [j] = wipe σ [j] ∧ tt σ2 H2 fun b H3 =>
        if b = true then te σ2 H3 fun y H4 => ∃ acc, H4 D = some (.lst acc) ∧ acc.length < sizeLine ∧ Nx (upd H4 D (.lst (acc ++ [y]))) else Nx H3) := by
  intro D hD
  refine lc_it w (fun i H1 => Same H H1 ∧ H1 D = some (.lst (((ns.take i).filter f).map V.int))) ⟨same_new hD, upd_same⟩ (fun i H1 _ h => hG H1 h.1) ?_ ?_
  · rintro i x H1 H2 hi ⟨s1, e1⟩ ⟨e0, hx⟩
    subst e0
    obtain ⟨z, hz, rfl⟩ := map_at hx
    refine ⟨wipe1, ht z _ (List.mem_of_getElem? hz) s1 _ fun H3 s3 => ?_⟩
    have e3 := s3 _ _ e1
    by_cases c : f z = true
    · rw [if_pos c]
      refine hs z H3 _ ⟨_, e3, ?_, fun b o e => kpO (s3 _ _ (s1 b o e)) (ne_of_none e hD), ?_⟩
      · rw [List.length_map]
        refine small_lt (Nat.lt_of_le_of_lt (List.length_filter_le _ _) ?_)
        rw [List.length_map] at hi
        rw [List.length_take]; omega
      · rw [upd_same, filter_more hz, if_pos c, List.map_append]; rfl
    · rw [if_neg c]
      refine ⟨s1.trans s3, ?_⟩
      rw [filter_more hz, if_neg c, List.append_nil]; exact e3
  · rintro H1 ⟨s1, e1⟩
    rw [List.length_map, List.take_length] at e1
    exact hd D H1 s1 hD e1
theorem lcF2 {ns : List Int} (hv : σ[i]? = some (some x)) (hx : Sk K H x (ns.map V.int)) (f : Int → Bool) (few : ns.length ≤ 1000)
    (ht : ∀ z H1, z ∈ ns → Same H H1 → ∀ R : Bool → Hp → Prop, (∀ H2, Same H1 H2 → R (f z) H2) → tt ((σ.set j none).set j (some (.int z))) H1 R)
    (hs : ∀ z H1, ∀ P : VK, P (.int z) H1 → te ((σ.set j none).set j (some (.int z))) H1 P)
    (hd : ∀ D H1, Same H H1 → H D = none → H1 D = some (.lst ((ns.filter f).map V.int)) → Q (.ref D) H1) : tLc (fun σ H R => iList K (tVar i) σ H R ∨ iTup K (tVar i) σ H R) (gName j) tt te [j] σ H Q := by
  obtain ⟨a, rfl, h | h⟩ := hx
  · exact .inl ⟨_, hv, a, rfl, ⟨_, h⟩, lcFW walk_list (fun H' s => s.seq h) f few ht hs hd⟩
  · exact .inr ⟨_, hv, a, rfl, ⟨_, h⟩, lcFW walk_tup (fun H' s => Jv.Same.sqT s h) f few ht hs hd⟩
end
end Jv

/-! ### comprehensions whose results are lists of the program's own -/
namespace Jv
open PySem PySem.Spec PyProof.Rows L2
section
variable {K : PySem.W.Frag} {σ : L2.St} {H : Hp} {te te0 : TE} {tt : TT} {Q : VK} {xs : List V} {j n : Nat} {x : V} {J : It} {G : Hp → Prop} {Y : Nat → Hp → V → Hp → Prop} {Fx : Nat → V → Prop} {F : Nat → List V}
theorem lcOwnD (w : Walk J n G Y) (hG : ∀ H', Same H H' → G H') (hy : ∀ i H x H', i < n → Y i H x H' → H' = H ∧ Fx i x) (F : Nat → List V) (few : n ≤ 1000)
    (hs : ∀ i v D H1, i < n → Fx i v → Same H H1 → H D = none → ∀ P : VK, (∀ t H2, H1 t = none → Same H1 H2 → H2 t = some (.lst (F i)) → P (.ref t) H2) → te ((σ.set j none).set j (some v)) H1 P)
    (hd : ∀ D (As : List Addr) H1, Same H H1 → H D = none → As.length = n → As.Nodup → D ∉ As → (∀ b ∈ As, H b = none) → H1 D = some (.lst (As.map V.ref)) → (∀ (k : Nat) b, As[k]? = some b → H1 b = some (.lst (F k))) → Q (.ref D) H1) : ∀ D, H D = none → ∃ W : Nat → Nat → Hp → Prop, (∃ m, W 0 m (upd H D (.lst []))) ∧ ∀ i m H, W i m H →
      (J.stop i H ∧ Q (.ref D) H) ∨ (J.go i H ∧ ∃ Nx : Hp → Prop, (∀ H', Nx H' → ∃ m', m' < m ∧ W (i + 1) m' H') ∧ ∀ x H', J.yld i H x H' → gName j x (wipe σ [j]) H' fun σ2 H2 => wipe σ2 [j] = wipe σ [j] ∧ tYes σ2 H2 fun b H3 =>
        if b = true then te σ2 H3 fun y H4 => ∃ acc, H4 D = some (.lst acc) ∧ acc.length < sizeLine ∧ Nx (upd H4 D (.lst (acc ++ [y]))) else Nx H3) := by
  intro D hD
  refine lc_it w (fun i H1 => Same H H1 ∧ ∃ As : List Addr, As.length = i ∧ As.Nodup ∧ D ∉ As ∧ (∀ b ∈ As, H b = none) ∧ H1 D = some (.lst (As.map V.ref)) ∧ ∀ (k : Nat) b, As[k]? = some b → H1 b = some (.lst (F k)))
    ⟨same_new hD, [], rfl, List.nodup_nil, List.not_mem_nil, fun b m => (by cases m), upd_same, fun k b e => (by simp at e)⟩ (fun i H1 _ h => hG H1 h.1) ?_ ?_
  · rintro i x H1 H2 hi ⟨s1, As, e0, nd, nD, hn, e1, al⟩ hx
    obtain ⟨e2, hF⟩ := hy i _ _ _ hi hx
    subst e2
    refine ⟨wipe1, ?_⟩
    refine r_yes ?_
    refine r_true (c := true) rfl ?_
    refine hs i x D _ hi hF s1 hD _ fun t H3 ht s3 et => ?_
    have htA : t ∉ As := fun m => by
      obtain ⟨k, hk, e⟩ := List.getElem_of_mem m
      have := al k t (by rw [List.getElem?_eq_getElem hk, e])
      rw [ht] at this; cases this
    have htD : t ≠ D := fun e => by rw [e, e1] at ht; cases ht
    have htH : H t = none := s1.free ht
    refine ⟨_, s3 _ _ e1, ?_, fun b o e => kpO (s3 _ _ (s1 b o e)) (ne_of_none e hD), As ++ [t], by rw [List.length_append, e0]; rfl, ?_, ?_, ?_, by rw [upd_same, List.map_append]; rfl, ?_⟩
    · rw [List.length_map, e0]; exact small_lt (by omega)
    · refine List.nodup_append.mpr ⟨nd, by simp, fun a ha b hb => ?_⟩
      rw [List.mem_singleton.mp hb]
      exact fun e => htA (e ▸ ha)
    · intro m
      rcases List.mem_append.mp m with m | m
      · exact nD m
      · exact htD (List.mem_singleton.mp m).symm
    · intro b m
      rcases List.mem_append.mp m with m | m
      · exact hn b m
      · rw [List.mem_singleton.mp m]; exact htH
    · intro k b e
      have nb : b ≠ D := fun eb => by
        rw [eb] at e
        rcases List.mem_append.mp (List.mem_of_getElem? e) with m | m
        · exact nD m
        · exact htD (List.mem_singleton.mp m).symm
      rw [upd_ne nb]
      by_cases hk : k < As.length
      · rw [List.getElem?_append_left hk] at e
        exact s3 _ _ (al k b e)
      · have h2 := (List.getElem?_eq_some_iff.mp e).1
        rw [List.length_append] at h2
        have h3 : k = As.length := by simp at h2; omega
        subst h3
        rw [List.getElem?_append_right (Nat.le_refl _), Nat.sub_self] at e
        cases e
        rw [e0]; exact et
  · rintro H1 ⟨s1, As, e0, nd, nD, hn, e1, al⟩
    exact hd D As H1 s1 hD e0 nd nD hn e1 al
/-- over what an expression gives -/
theorem lcOwn (hit : ∀ P : VK, P x H → te0 σ H P) (hx : Sk K H x xs) (F : Nat → List V) (few : xs.length ≤ 1000)
    (hs : ∀ i v D H1, i < xs.length → xs[i]? = some v → Same H H1 → H D = none → ∀ P : VK, (∀ t H2, H1 t = none → Same H1 H2 → H2 t = some (.lst (F i)) → P (.ref t) H2) → te ((σ.set j none).set j (some v)) H1 P)
    (hd : ∀ D (As : List Addr) H1, Same H H1 → H D = none → As.length = xs.length → As.Nodup → D ∉ As → (∀ b ∈ As, H b = none) → H1 D = some (.lst (As.map V.ref)) → (∀ (k : Nat) b, As[k]? = some b → H1 b = some (.lst (F k))) → Q (.ref D) H1) : tLc (fun σ H R => iList K te0 σ H R ∨ iTup K te0 σ H R) (gName j) tYes te [j] σ H Q := by
  obtain ⟨a, rfl, h | h⟩ := hx
  · exact .inl (hit _ ⟨a, rfl, ⟨xs, h⟩, lcOwnD walk_list (fun H' s => s.seq h) yat F few hs hd⟩)
  · exact .inr (hit _ ⟨a, rfl, ⟨xs, h⟩, lcOwnD walk_tup (fun H' s => Jv.Same.sqT s h) yat F few hs hd⟩)
theorem lcOwn2 {i : Nat} (hv : σ[i]? = some (some x)) (hx : Sk K H x xs) (F : Nat → List V) (few : xs.length ≤ 1000)
    (hs : ∀ i v D H1, i < xs.length → xs[i]? = some v → Same H H1 → H D = none → ∀ P : VK, (∀ t H2, H1 t = none → Same H1 H2 → H2 t = some (.lst (F i)) → P (.ref t) H2) → te ((σ.set j none).set j (some v)) H1 P)
    (hd : ∀ D (As : List Addr) H1, Same H H1 → H D = none → As.length = xs.length → As.Nodup → D ∉ As → (∀ b ∈ As, H b = none) → H1 D = some (.lst (As.map V.ref)) → (∀ (k : Nat) b, As[k]? = some b → H1 b = some (.lst (F k))) → Q (.ref D) H1) : tLc (fun σ H R => iList K (tVar i) σ H R ∨ iTup K (tVar i) σ H R) (gName j) tYes te [j] σ H Q :=
  lcOwn (fun P hP => ⟨_, hv, hP⟩) hx F few hs hd
end
/-- data, item by item -/
theorem dvAll_mk {K : PySem.W.Frag} {H : Hp} : ∀ {vs : List V} {ds : List PyData}, vs.length = ds.length → (∀ (i : Nat) v d, vs[i]? = some v → ds[i]? = some d → Dv K H v d) → DvAll K H vs ds
  | [], [], _, _ => .nil
  | v :: vs, d :: ds, hl, h => .cons (h 0 v d rfl rfl) (dvAll_mk (by simpa using hl) fun i v d h1 h2 => h (i + 1) v d h1 h2)
/-- what each item of a row of rows holds -/
theorem rows_of {K : PySem.W.Frag} {H : Hp} {vs : List V} {ds : List PyData} (h : DvAll K H vs ds) (hs : ∀ d ∈ ds, (seqD d).isSome = true) : ∃ F : Nat → List V, ∀ (i : Nat) v d, vs[i]? = some v → ds[i]? = some d → Sk K H v (F i) ∧ ∃ es, seqD d = some es ∧ DvAll K H (F i) es := by
  have h1 : ∀ i : Nat, ∃ X : List V, ∀ v d, vs[i]? = some v → ds[i]? = some d → Sk K H v X ∧ ∃ es, seqD d = some es ∧ DvAll K H X es := fun i => by
    cases e : vs[i]? with
    | none => exact ⟨[], fun v d h _ => by cases h⟩
    | some v =>
      obtain ⟨d, e2, hd⟩ := h.at e
      obtain ⟨es, e3⟩ := Option.isSome_iff_exists.mp (hs d (List.mem_of_getElem? e2))
      obtain ⟨X, k1, k2⟩ := hd.sk e3
      refine ⟨X, fun v' d' h1 h2 => ?_⟩
      cases h1
      rw [e2] at h2; cases h2
      exact ⟨k1, es, e3, k2⟩
  exact ⟨fun i => Classical.choose (h1 i), fun i => Classical.choose_spec (h1 i)⟩
end Jv

/-! ### several except clauses, some with a name -/
namespace Jv
open PySem PySem.Spec PyProof.Rows L2
/-- a suite with the exception's name at slot i -/
def sNamed (i : Nat) (ts : Addr → Value → Option Addr → TS) : Addr → Value → Option Addr → TS := fun e k d D τ H =>
  ts e k d { nx := fun ρ G => D.nx (ρ.set i none) G, rt := D.rt, bk := fun ρ G => D.bk (ρ.set i none) G, ct := fun ρ G => D.ct (ρ.set i none) G } (τ.set i (some (.ref e))) H
inductive Cls2 (X : Cx) : List ExceptHandler → List (Value × (Addr → Value → Option Addr → TS)) → Prop
  | nil : Cls2 X [] []
  | bare {nm : Str} {k : Value} {ts : Addr → Value → Option Addr → TS} {st : Stmt} {sts : List Stmt} {p1 p2 : Pos} {hl : List ExceptHandler} {wl : List (Value × (Addr → Value → Option Addr → TS))} (hk : Names X nm k)
      (su : ∀ (e : Addr) (ob : Obj) (kd : Value) (d : Option Addr) (pq : List (Addr × Obj)), Zc kd d ob → (∃ fs, ob.data = .fields fs) → PSs (X.suite e ((e, ob) :: pq)) (st :: sts) (ts e kd d)) (more : Cls2 X hl wl) :
      Cls2 X (.ExceptHandler (some (.Name nm p1)) none (st :: sts) p2 :: hl) ((k, ts) :: wl)
  | named {nm n : Str} {i : Nat} {k : Value} {ts : Addr → Value → Option Addr → TS} {st : Stmt} {sts : List Stmt} {p1 p2 : Pos} {hl : List ExceptHandler} {wl : List (Value × (Addr → Value → Option Addr → TS))} (nd : X.N.Nodup) (ix : X.N[i]? = some n) (lc : X.env.kindOf n = some .local) (hk : Names X nm k)
      (su : ∀ (e : Addr) (ob : Obj) (kd : Value) (d : Option Addr) (pq : List (Addr × Obj)), Zc kd d ob → (∃ fs, ob.data = .fields fs) → PSs (X.suite e ((e, ob) :: pq)) (st :: sts) (ts e kd d)) (more : Cls2 X hl wl) :
      Cls2 X (.ExceptHandler (some (.Name nm p1)) (some n) (st :: sts) p2 :: hl) ((k, sNamed i ts) :: wl)
section
variable {X : Cx} {body : List Stmt} {h1 : ExceptHandler} {hl : List ExceptHandler} {wl : List (Value × (Addr → Value → Option Addr → TS))} {pos : Pos} {tb : WX → TS} {Wo : WX}
theorem ps_tryMix (hst : X.stack = X.env :: X.outer) (hfr0 : X.env.frame = some X.env.locals) (tk : Takes X Wo) (hh : Cls2 X (h1 :: hl) wl)
    (hb : ∀ (W : WX) (pq : List (Addr × Obj)) (xe : Value → Shared → Prop), Takes (X.tr pq xe) W → PassesOwn (model X.prog X.w) X.A X.env xe → PSs (X.tr pq xe) body (tb W)) :
    PS X (.Try body (h1 :: hl) [] [] pos) (fun D τ H => tb (wMany X.K Wo D wl) D τ H) := by
  refine ⟨fun pins s τ H D I wish => ?_⟩
  have iok := I.ok
  have afr : X.A.frames = some (X.env :: X.outer) := by rw [iok.frames, hst]
  refine wpAny_Try_except ?_
  refine wpAny_mono ((hb (wMany X.K Wo D wl) (X.pn ++ pins) (fun u r1 => wpAny (model X.prog X.w) X.A (noteFrame u X.env) (fun _ r2 => wpAny (model X.prog X.w) X.A (setFlight u none) (fun _ r3 =>
    wpAny (model X.prog X.w) X.A (handleBy u X.env (h1 :: hl)) (SP X pins D) X.xe r3) X.xe r2) X.xe r1) (fun u t xx => ?_) PassesOwn.looking).run [] s τ H D (I.toTry _) wish) (fun f t hsp => ?_) (fun u t he => he)
  · obtain ⟨e, B, sI, pq, ρ, G, kd, d, rfl, J0, nb, up, sky0, ne, os, ag, w⟩ := xx
    have J : Inv X pins ρ G sI := J0.ofTry iok
    have sky : Sky B (X.env :: X.outer) e (Zc kd d) X.env.locals t.heap := by rw [← hst]; exact sky0
    show wpAny (model X.prog X.w) X.A (noteFrame (.ref e) X.env) _ _ _
    refine Sky.land Zc.steady afr hfr0 sky fun g3 fl3 up3 => ?_
    have J3 : Inv X pins ρ G { t with heap := g3 } := J.landed nb fl3.1 (up.trans up3) os ag
    obtain ⟨ob3, fs3, at3, z3, dt3⟩ := fl3.there
    have notIn : e ∉ frs (X.env :: X.outer) := fun m => by
      obtain ⟨_, ob, at', hn⟩ := fl3.2.2.1.mem m
      rw [at3] at at'; cases at'
      exact hn _ dt3
    have nLoc : e ≠ X.env.locals := fun z => notIn (List.mem_filterMap.mpr ⟨X.env, List.mem_cons_self, by rw [hfr0, z]⟩)
    have nFs : e ∉ X.fs := fun m => by
      obtain ⟨v, hv, q⟩ := List.mem_filterMap.mp m
      exact notIn (List.mem_filterMap.mpr ⟨v, List.mem_cons_of_mem _ hv, q⟩)
    have S3 := J3.suite at3 dt3 ne nLoc nFs
    have look : PySem.W.Looks (model X.prog X.w) g3 (typeOf (.ref e)) kd := fun A Q E r k q => wpAny_typeOf_ref (k _ _ at3) (by rw [z3.1]; exact q)
    have test : ∀ {nm : Str} {p1 : Pos} {k : Value} {Q : Value → Shared → Prop} {E : Value → Shared → Prop}, Names X nm k → Q k { t with heap := g3 } → wpAny (model X.prog X.w) (X.A.mark (some (.ref e))) (eval (.Name nm p1) X.env) Q E { t with heap := g3 } := fun {nm p1 k Q E} hk q => by
      obtain ⟨hg, hdb, hm | ⟨hm, hv, hnn⟩⟩ := hk
      · exact ld_glob (X := X.suite e ((e, ob3) :: (X.pn ++ pins))) S3 hg hm q hdb
      · exact ld_blt (X := X.suite e ((e, ob3) :: (X.pn ++ pins))) S3 hg hm hv q hnn hdb
    have all : ∀ {hl2 : List ExceptHandler} {wl2 : List (Value × (Addr → Value → Option Addr → TS))}, Cls2 X hl2 wl2 → wMany X.K Wo D wl2 kd d ρ G →
        wpAny (model X.prog X.w) X.A (handleBy (.ref e) X.env hl2) (SP X pins D) X.xe { t with heap := g3 } := by
      intro hl2 wl2 hc
      induction hc with
      | nil =>
        intro w
        refine wpAny_handleBy_nil ?_
        obtain ⟨k1, k2, k3, ob, fs, T, oT, us, he, hz, hd, hh1, hr⟩ := id fl3
        unfold PySem.passOn
        refine wpAny_bind (wpAny_field he hd hh1 ?_)
        rw [if_neg (show ¬ ((Value.ref T == Value.none) = true) from by simp)]
        have fin : wpAny (model X.prog X.w) X.A (setFlight (.ref e) X.env.frame) (fun _ r4 => wpAny (model X.prog X.w) X.A (throw (.ref e) : Sem Flow) (SP X pins D) X.xe r4) X.xe { t with heap := g3 } := by
          rw [hfr0]
          refine HandSPX.setFlight_upZ fl3 fun g4 hg4 up4 => wpAny_throw (tk _ _ ?_)
          exact ⟨e, B, sI, pins, ρ, G, kd, d, rfl, J, nb, (up.trans up3).trans up4, .inr (.inr (by rw [hst]; exact hg4)), ne, os, ag, w⟩
        first
          | exact wpAny_bind (wpAny_pure (wpAny_bind fin))
          | exact wpAny_bind fin
      | @bare nm k ts st sts p1 p2 hl3 wl3 hk su more ih =>
        intro w
        obtain ⟨b, hb1, yes, no⟩ := w
        refine wpAny_handleBy_cons (codeAny_handlers_test ?_) (by intro q; cases q)
        refine test hk ((PySem.W.exm_one (M := model X.prog X.w) (J3.kIn) look hb1).here ?_)
        cases b with
        | true =>
          refine codeAny_handlers_suite ?_
          refine HandSPX.lands_againZ fl3 fun g4 fl4 up4 => ?_
          have J4 : Inv X pins ρ G { t with heap := g4 } := J.landed nb fl4.1 ((up.trans up3).trans up4) os ag
          obtain ⟨ob4, fs4, at4, z4, dt4⟩ := fl4.there
          have S4 := J4.suite at4 dt4 ne nLoc nFs
          refine wpAny_mono ((su e ob4 kd d (X.pn ++ pins) z4 ⟨_, dt4⟩).run [] _ _ G _ S4 (yes rfl e ne)) (fun f r6 hsp => ?_) (fun _ _ z => False.elim z)
          cases f with
          | ret u =>
            obtain ⟨v6, τ6, G6, S6, rel6, q6⟩ := hsp
            exact ⟨_, _, _, S6.unsuite iok, rel6, q6⟩
          | _ =>
            obtain ⟨τ6, G6, S6, q6⟩ := hsp
            exact ⟨_, _, S6.unsuite iok, q6⟩
        | false =>
          show wpAny _ X.A (handleBy (.ref e) X.env hl3) _ _ _
          exact ih (no rfl)
      | @named nm n i k ts st sts p1 p2 hl3 wl3 nd ix lc hk su more ih =>
        intro w
        obtain ⟨b, hb1, yes, no⟩ := w
        refine wpAny_handleBy_cons (codeAny_handlers_test ?_) (by intro q; cases q)
        refine test hk ((PySem.W.exm_one (M := model X.prog X.w) (J3.kIn) look hb1).here ?_)
        cases b with
        | true =>
          refine codeAny_handlers_suite_as ?_
          refine HandSPX.lands_againZ fl3 fun g4 fl4 up4 => ?_
          have J4 : Inv X pins ρ G { t with heap := g4 } := J.landed nb fl4.1 ((up.trans up3).trans up4) os ag
          obtain ⟨ob4, fs4, at4, z4, dt4⟩ := fl4.there
          have S4 := J4.suite at4 dt4 ne nLoc nFs
          refine store_ok (X := X.suite e ((e, ob4) :: (X.pn ++ pins))) (v := .ref e) S4 nd ix (.inl lc) rfl (fun r5 S5 => ?_) (.inr lc)
          refine wpAny_mono ((su e ob4 kd d (X.pn ++ pins) z4 ⟨_, dt4⟩).run [] r5 _ G _ S5 (yes rfl e ne)) (fun f r6 hsp => ?_) (fun _ _ z => False.elim z)
          have goes : ∀ {τ6 : L2.St} {G6 : Hp} {Q : Shared → Prop}, Inv (X.suite e ((e, ob4) :: (X.pn ++ pins))) [] τ6 G6 r6 → (∀ r7, Inv X pins (τ6.set i none) G6 r7 → Q r7) →
              wpAny (model X.prog X.w) X.A (do bindName X.env n .none; unbindBehindTheSuite X.env n p2) (fun _ r7 => Q r7) X.xe r6 := fun {τ6 G6 Q} S6 hq => gone_ok (S6.unsuite iok) nd ix lc hq
          cases f with
          | ret u =>
            obtain ⟨v6, τ6, G6, S6, rel6, q6⟩ := hsp
            exact goes S6 fun r7 J7 => ⟨_, _, _, J7, rel6, q6⟩
          | _ =>
            obtain ⟨τ6, G6, S6, q6⟩ := hsp
            exact goes S6 fun r7 J7 => ⟨_, _, J7, q6⟩
        | false =>
          show wpAny _ X.A (handleBy (.ref e) X.env hl3) _ _ _
          exact ih (no rfl)
    exact all hh w
  · cases f with
    | next =>
      obtain ⟨ρ, G, J0, q⟩ := hsp
      exact wpAny_execs_nil ⟨ρ, G, J0.ofTry iok, q⟩
    | ret u =>
      obtain ⟨v, ρ, G, J0, rel, q⟩ := hsp
      exact ⟨v, ρ, G, J0.ofTry iok, rel, q⟩
    | _ =>
      obtain ⟨ρ, G, J0, q⟩ := hsp
      exact ⟨ρ, G, J0.ofTry iok, q⟩
end
end Jv

/-! ### trees of lists that are new: each list at its own place, so that one may change -/
namespace Jv
open PySem PySem.Spec PyProof.Rows L2
mutual
inductive Ft (K : PySem.W.Frag) (H : Hp) : V → PyData → List Addr → Prop
  | non : Ft K H .non .none []
  | bl (b : Bool) : Ft K H (.bl b) (.bool b) []
  | int (i : Int) : Ft K H (.int i) (.int i) []
  | str (x : Str) : Ft K H (.str x) (.str x) []
  | lst {a : Addr} {xs : List V} {ds : List PyData} {A : List Addr} : H a = some (.lst xs) → FtAll K H xs ds A → a ∉ A → Ft K H (.ref a) (.list ds) (a :: A)
inductive FtAll (K : PySem.W.Frag) (H : Hp) : List V → List PyData → List Addr → Prop
  | nil : FtAll K H [] [] []
  | cons {v : V} {vs : List V} {d : PyData} {ds : List PyData} {A B : List Addr} : Ft K H v d A → FtAll K H vs ds B → (∀ a ∈ A, a ∉ B) → FtAll K H (v :: vs) (d :: ds) (A ++ B)
end
mutual
theorem Ft.dv {K : PySem.W.Frag} {H : Hp} : ∀ {v : V} {d : PyData} {A : List Addr}, Ft K H v d A → Dv K H v d
  | _, _, _, .non => .non
  | _, _, _, .bl b => .bl b
  | _, _, _, .int i => .int i
  | _, _, _, .str x => .str x
  | _, _, _, .lst h q _ => .lst h (FtAll.dv q)
theorem FtAll.dv {K : PySem.W.Frag} {H : Hp} : ∀ {vs : List V} {ds : List PyData} {A : List Addr}, FtAll K H vs ds A → DvAll K H vs ds
  | _, _, _, .nil => .nil
  | _, _, _, .cons a b _ => .cons (Ft.dv a) (FtAll.dv b)
end
mutual
/-- what is kept at the tree's own places keeps the tree -/
theorem Ft.keep {K : PySem.W.Frag} {H H' : Hp} : ∀ {v : V} {d : PyData} {A : List Addr}, Ft K H v d A → (∀ a ∈ A, ∀ o, H a = some o → H' a = some o) → Ft K H' v d A
  | _, _, _, .non, _ => .non
  | _, _, _, .bl b, _ => .bl b
  | _, _, _, .int i, _ => .int i
  | _, _, _, .str x, _ => .str x
  | _, _, _, .lst h q n, s => .lst (s _ List.mem_cons_self _ h) (FtAll.keep q fun a m => s a (List.mem_cons_of_mem _ m)) n
theorem FtAll.keep {K : PySem.W.Frag} {H H' : Hp} : ∀ {vs : List V} {ds : List PyData} {A : List Addr}, FtAll K H vs ds A → (∀ a ∈ A, ∀ o, H a = some o → H' a = some o) → FtAll K H' vs ds A
  | _, _, _, .nil, _ => .nil
  | _, _, _, .cons a b n, s => .cons (Ft.keep a fun c m => s c (List.mem_append_left _ m)) (FtAll.keep b fun c m => s c (List.mem_append_right _ m)) n
end
section
variable {K : PySem.W.Frag} {H H' : Hp}
theorem FtAll.ints : ∀ ns : List Int, FtAll K H (ns.map V.int) (ns.map PyData.int) []
  | [] => .nil
  | a :: r => by
    have h := FtAll.cons (A := []) (B := []) (Ft.int (K := K) (H := H) a) (FtAll.ints r) (fun _ m => nomatch m)
    exact h
theorem FtAll.app : ∀ {vs ws : List V} {ds es : List PyData} {A B : List Addr}, FtAll K H vs ds A → FtAll K H ws es B → (∀ a ∈ A, a ∉ B) → FtAll K H (vs ++ ws) (ds ++ es) (A ++ B)
  | _, _, _, _, _, _, .nil, q, _ => q
  | _, ws, _, es, _, B, .cons (A := A1) (B := B1) a b n, q, dj => by
    rw [List.cons_append, List.cons_append, List.append_assoc]
    refine .cons a (FtAll.app b q fun c m => dj c (List.mem_append_right _ m)) fun c m => ?_
    intro m2
    rcases List.mem_append.mp m2 with h | h
    · exact n c m h
    · exact dj c (List.mem_append_left _ m) h
theorem FtAll.len : ∀ {vs : List V} {ds : List PyData} {A : List Addr}, FtAll K H vs ds A → vs.length = ds.length
  | _, _, _, .nil => rfl
  | _, _, _, .cons _ b _ => congrArg (· + 1) (FtAll.len b)
/-- one of them, and what a change within it makes of all -/
theorem FtAll.chg : ∀ {vs : List V} {ds : List PyData} {A : List Addr} {i : Nat} {v : V}, FtAll K H vs ds A → vs[i]? = some v → ∃ d B, ds[i]? = some d ∧ Ft K H v d B ∧ (∀ a ∈ B, a ∈ A) ∧
    (∀ w e H', (∀ a ∈ A, a ∉ B → ∀ o, H a = some o → H' a = some o) → Dv K H' w e → DvAll K H' (vs.set i w) (ds.set i e))
  | _, _, _, _, _, .nil, e => by simp at e
  | _, _, _, 0, v, .cons (A := A1) (B := B1) a b n, e => by
    simp at e; subst e
    refine ⟨_, A1, rfl, a, fun c m => List.mem_append_left _ m, fun w e H' s dv => ?_⟩
    exact .cons dv (b.keep fun c m => s c (List.mem_append_right _ m) fun m2 => n c m2 m).dv
  | _, _, _, i + 1, v, .cons (A := A1) (B := B1) a b n, e => by
    simp at e
    obtain ⟨d, B, h1, h2, h3, h4⟩ := FtAll.chg b e
    refine ⟨d, B, h1, h2, fun c m => List.mem_append_right _ (h3 c m), fun w e H' s dv => ?_⟩
    refine .cons (a.keep fun c m => s c (List.mem_append_left _ m) fun m2 => n c m (h3 c m2)).dv (h4 w e H' (fun c m m2 => s c (List.mem_append_right _ m) m2) dv)
mutual
theorem Ft.held : ∀ {v : V} {d : PyData} {A : List Addr}, Ft K H v d A → ∀ a ∈ A, ∃ xs, H a = some (.lst xs)
  | _, _, _, .lst h q _, a, m => by
    rcases List.mem_cons.mp m with rfl | m
    · exact ⟨_, h⟩
    · exact FtAll.held q a m
theorem FtAll.held : ∀ {vs : List V} {ds : List PyData} {A : List Addr}, FtAll K H vs ds A → ∀ a ∈ A, ∃ xs, H a = some (.lst xs)
  | _, _, _, .cons x y _, a, m => by
    rcases List.mem_append.mp m with m | m
    · exact Ft.held x a m
    · exact FtAll.held y a m
end
theorem Ft.same {v : V} {d : PyData} {A : List Addr} (h : Ft K H v d A) (s : Same H H') : Ft K H' v d A := h.keep fun a _ o e => s a o e
end
section
variable {K : PySem.W.Frag} {σ : L2.St} {H : Hp} {te te0 : TE} {Q : VK} {xs : List V} {es : List PyData} {j i n : Nat} {x : V} {J : It} {G : Hp → Prop} {Y : Nat → Hp → V → Hp → Prop} {F : Nat → V → Prop}
theorem lcNew (w : Walk J n G Y) (hG : ∀ H', Same H H' → G H') (hy : ∀ i H x H', i < n → Y i H x H' → H' = H ∧ F i x) (es : List PyData) (hl : es.length = n) (few : n ≤ 1000)
    (hs : ∀ i v e D H1, i < n → F i v → es[i]? = some e → Same H H1 → H D = none → (∃ o, H1 D = some o) → ∀ P : VK, (∀ y A H2, Same H1 H2 → Ft K H2 y e A → (∀ a ∈ A, H1 a = none) → P y H2) → te ((σ.set j none).set j (some v)) H1 P)
    (hd : ∀ D A H1, Same H H1 → Ft K H1 (.ref D) (.list es) A → (∀ a ∈ A, H a = none) → Q (.ref D) H1) : ∀ D, H D = none → ∃ W : Nat → Nat → Hp → Prop, (∃ m, W 0 m (upd H D (.lst []))) ∧ ∀ i m H, W i m H →
      (J.stop i H ∧ Q (.ref D) H) ∨ (J.go i H ∧ ∃ Nx : Hp → Prop, (∀ H', Nx H' → ∃ m', m' < m ∧ W (i + 1) m' H') ∧ ∀ x H', J.yld i H x H' → gName j x (wipe σ [j]) H' fun σ2 H2 => wipe σ2 [j] = wipe σ [j] ∧ tYes σ2 H2 fun b H3 =>
        if b = true then te σ2 H3 fun y H4 => ∃ acc, H4 D = some (.lst acc) ∧ acc.length < sizeLine ∧ Nx (upd H4 D (.lst (acc ++ [y]))) else Nx H3) := by
  intro D hD
  refine lc_it w (fun i H1 => Same H H1 ∧ ∃ ys A, H1 D = some (.lst ys) ∧ FtAll K H1 ys (es.take i) A ∧ ∀ a ∈ A, H a = none ∧ a ≠ D) ⟨same_new hD, [], [], upd_same, .nil, fun _ m => nomatch m⟩ (fun i H1 _ h => hG H1 h.1) ?_ ?_
  · rintro i x H1 H2 hi ⟨s1, ys, A, e1, al, fr⟩ hx
    obtain ⟨e0, hF⟩ := hy i _ _ _ hi hx
    subst e0
    refine ⟨wipe1, ?_⟩
    refine r_yes ?_
    refine r_true (c := true) rfl ?_
    have hie : i < es.length := by omega
    have he := List.getElem?_eq_getElem hie
    refine hs i x _ D _ hi hF he s1 hD ⟨_, e1⟩ _ fun y B H3 s3 dy nB => ⟨_, s3 _ _ e1, ?_, ?_, _, A ++ B, upd_same, ?_, ?_⟩
    · rw [al.len, List.length_take]; exact small_lt (by omega)
    · intro b o e; exact kpO (s3 _ _ (s1 b o e)) (ne_of_none e hD)
    · rw [take_more he]
      have nD : ∀ a ∈ B, a ≠ D := fun a m z => by have := nB a m; rw [z, e1] at this; cases this
      have q : FtAll K (upd H3 D (.lst (ys ++ [y]))) [y] [es[i]] B := by
        have q2 : Ft K (upd H3 D (.lst (ys ++ [y]))) y es[i] B := dy.keep fun a m o e => kpO e (nD a m)
        have q3 := FtAll.cons q2 (FtAll.nil (K := K)) (fun a _ => by simp)
        rw [List.append_nil] at q3
        exact q3
      refine FtAll.app (al.keep fun a m o e => kpO (s3 _ _ e) (fr a m).2) q fun a m m2 => ?_
      obtain ⟨zs, hz⟩ := al.held a m
      rw [nB a m2] at hz; cases hz
    · intro a m
      rcases List.mem_append.mp m with m | m
      · exact fr a m
      · have h1 := nB a m
        refine ⟨?_, fun z => by rw [z, e1] at h1; cases h1⟩
        cases e : H a with
        | none => rfl
        | some o => rw [s1 a o e] at h1; cases h1
  · rintro H1 ⟨s1, ys, A, e1, al, fr⟩
    rw [List.take_of_length_le (by omega)] at al
    exact hd D (D :: A) H1 s1 (.lst e1 al fun m => (fr D m).2 rfl) fun a m => by
      rcases List.mem_cons.mp m with rfl | m
      · exact hD
      · exact (fr a m).1
theorem lcNew2 (hv : σ[i]? = some (some x)) (hx : Sk K H x xs) (es : List PyData) (hl : es.length = xs.length) (few : xs.length ≤ 1000)
    (hs : ∀ i v e D H1, i < xs.length → xs[i]? = some v → es[i]? = some e → Same H H1 → H D = none → (∃ o, H1 D = some o) → ∀ P : VK, (∀ y A H2, Same H1 H2 → Ft K H2 y e A → (∀ a ∈ A, H1 a = none) → P y H2) → te ((σ.set j none).set j (some v)) H1 P)
    (hd : ∀ D A H1, Same H H1 → Ft K H1 (.ref D) (.list es) A → (∀ a ∈ A, H a = none) → Q (.ref D) H1) : tLc (fun σ H R => iList K (tVar i) σ H R ∨ iTup K (tVar i) σ H R) (gName j) tYes te [j] σ H Q := by
  obtain ⟨a, rfl, h | h⟩ := hx
  · exact .inl ⟨_, hv, a, rfl, ⟨xs, h⟩, lcNew walk_list (fun H' s => s.seq h) yat es hl few hs hd⟩
  · exact .inr ⟨_, hv, a, rfl, ⟨xs, h⟩, lcNew walk_tup (fun H' s => Jv.Same.sqT s h) yat es hl few hs hd⟩
end
section
variable {K : PySem.W.Frag} {g : TG} {tb : TS} {D : Ends} {σ : L2.St} {H : Hp} {xs : List V} {x : V} {i : Nat}
/-- a loop over a name that holds a list or a tuple that stays -/
theorem for_sk (hv : σ[i]? = some (some x)) (hx : Sk K H x xs) (Pv : Nat → L2.St → Hp → Prop) (h0 : Pv 0 σ H) (hl : ∀ j σ' H', Pv j σ' H' → Same H H')
    (hs : ∀ j v σ' H', xs[j]? = some v → Pv j σ' H' → g v σ' H' fun σ2 H2 => tb { D with nx := Pv (j + 1), ct := Pv (j + 1), bk := D.nx } σ2 H2) (hd : ∀ σ' H', Pv xs.length σ' H' → D.nx σ' H') :
    iList K (tVar i) σ H (fun it H1 => ∃ W : Nat → Nat → L2.St → Hp → Prop, (∃ m, W 0 m σ H1) ∧ ∀ i m σ H, W i m σ H →
      (it.stop i H ∧ D.nx σ H) ∨ (it.go i H ∧ ∃ N : L2.St → Hp → Prop, (∀ σ' H', N σ' H' → ∃ m', m' < m ∧ W (i + 1) m' σ' H') ∧ ∀ x H', it.yld i H x H' → g x σ H' fun σ2 H2 => tb { D with nx := N, ct := N, bk := D.nx } σ2 H2)) ∨
    iTup K (tVar i) σ H (fun it H1 => ∃ W : Nat → Nat → L2.St → Hp → Prop, (∃ m, W 0 m σ H1) ∧ ∀ i m σ H, W i m σ H →
      (it.stop i H ∧ D.nx σ H) ∨ (it.go i H ∧ ∃ N : L2.St → Hp → Prop, (∀ σ' H', N σ' H' → ∃ m', m' < m ∧ W (i + 1) m' σ' H') ∧ ∀ x H', it.yld i H x H' → g x σ H' fun σ2 H2 => tb { D with nx := N, ct := N, bk := D.nx } σ2 H2)) := by
  obtain ⟨a, rfl, h | h⟩ := hx
  · exact .inl ⟨_, hv, a, rfl, ⟨xs, h⟩, for_list (xs := xs) Pv h0 (fun j σ' H' _ p => (hl j σ' H' p).seq h) hs hd⟩
  · exact .inr ⟨_, hv, a, rfl, ⟨xs, h⟩, for_tup (xs := xs) Pv h0 (fun j σ' H' _ p => Jv.Same.sqT (hl j σ' H' p) h) hs hd⟩
end
section
variable {K : PySem.W.Frag} {g : TG} {tb : TS} {D : Ends} {σ : L2.St} {H H0 : Hp} {xs : List V} {x : V} {i : Nat}
/-- the same with the sequence in an earlier heap -/
theorem for_sk0 (hv : σ[i]? = some (some x)) (hx : Sk K H0 x xs) (s0 : Same H0 H) (Pv : Nat → L2.St → Hp → Prop) (h0 : Pv 0 σ H) (hl : ∀ j σ' H', Pv j σ' H' → Same H0 H')
    (hs : ∀ j v σ' H', xs[j]? = some v → Pv j σ' H' → g v σ' H' fun σ2 H2 => tb { D with nx := Pv (j + 1), ct := Pv (j + 1), bk := D.nx } σ2 H2) (hd : ∀ σ' H', Pv xs.length σ' H' → D.nx σ' H') :
    iList K (tVar i) σ H (fun it H1 => ∃ W : Nat → Nat → L2.St → Hp → Prop, (∃ m, W 0 m σ H1) ∧ ∀ i m σ H, W i m σ H →
      (it.stop i H ∧ D.nx σ H) ∨ (it.go i H ∧ ∃ N : L2.St → Hp → Prop, (∀ σ' H', N σ' H' → ∃ m', m' < m ∧ W (i + 1) m' σ' H') ∧ ∀ x H', it.yld i H x H' → g x σ H' fun σ2 H2 => tb { D with nx := N, ct := N, bk := D.nx } σ2 H2)) ∨
    iTup K (tVar i) σ H (fun it H1 => ∃ W : Nat → Nat → L2.St → Hp → Prop, (∃ m, W 0 m σ H1) ∧ ∀ i m σ H, W i m σ H →
      (it.stop i H ∧ D.nx σ H) ∨ (it.go i H ∧ ∃ N : L2.St → Hp → Prop, (∀ σ' H', N σ' H' → ∃ m', m' < m ∧ W (i + 1) m' σ' H') ∧ ∀ x H', it.yld i H x H' → g x σ H' fun σ2 H2 => tb { D with nx := N, ct := N, bk := D.nx } σ2 H2)) := by
  obtain ⟨a, rfl, h | h⟩ := hx
  · exact .inl ⟨_, hv, a, rfl, ⟨xs, s0.seq h⟩, for_list (xs := xs) Pv h0 (fun j σ' H' _ p => (hl j σ' H' p).seq h) hs hd⟩
  · exact .inr ⟨_, hv, a, rfl, ⟨xs, Jv.Same.sqT s0 h⟩, for_tup (xs := xs) Pv h0 (fun j σ' H' _ p => Jv.Same.sqT (hl j σ' H' p) h) hs hd⟩
end
/-- a tree without lists needs no list -/
theorem sqT_hide {K : PySem.W.Frag} {H : Hp} {N : List Addr} (hN : ∀ b ∈ N, ∃ ys, H b = some (.lst ys)) {a : Addr} {xs : List V} (h : SqT K H a xs) : SqT K (hide N H) a xs := by
  rcases h with (h | ⟨o, h⟩) | h
  · exact .inl (.inl (hide_at (fun m => by obtain ⟨ys, e⟩ := hN a m; rw [h] at e; cases e) h))
  · exact .inl (.inr ⟨o, hide_at (fun m => by obtain ⟨ys, e⟩ := hN a m; rw [h] at e; cases e) h⟩)
  · exact .inr h
theorem DvAll.imp {K : PySem.W.Frag} {H H' : Hp} : ∀ {vs : List V} {ds : List PyData}, DvAll K H vs ds → (∀ v d, d ∈ ds → Dv K H v d → Dv K H' v d) → DvAll K H' vs ds
  | _, _, .nil, _ => .nil
  | _, _, .cons a b, f => .cons (f _ _ List.mem_cons_self a) (DvAll.imp b fun v d m => f v d (List.mem_cons_of_mem _ m))
end Jv

/-! ### repr of a container: where no text of a container is under way (guards known) -/
namespace Jv
open PySem PySem.Spec PyProof.Rows L2
/-- a def's promise where no text of a container is under way -/
structure FnG (P : Program) (w : World) (K : PySem.W.Frag) (mg : Str → Option Value) (base : Heap) (CX : CXT) (k : Nat) (f : Addr) (fd : FuncData) (ps : List Str) (sp : Sp) : Prop where
  long : ∀ vs H Q E, sp vs H Q E → vs.length = ps.length
  goes : ∀ A outer s H args us vs Q E, A.guards = some [] → Room k A →
    Env0 P w K mg base A outer s H → BindsTo s fd args (ps.zip us) → Vals vs us → sp vs H Q E →
      codeAny (model P w) A (.call (.ref f) args) (CR CX outer P w H s Q E) s
section
variable {P : Program} {w : World} {K : PySem.W.Frag} {mg : Str → Option Value} {base : Heap} {CX : CXT} {k : Nat} {f : Addr} {fd : FuncData} {ps : List Str} {sp : Sp}
theorem FnG.of (F : FnOk P w K mg base CX k f fd ps sp) : FnG P w K mg base CX k f fd ps sp := ⟨F.len, fun A o s H a us vs Q E _ => F.run A o s H a us vs Q E⟩
/-- a def whose body may ask for the text of a container -/
theorem fun_okG {x qual : Str} {st : Stmt} {N : List Str} (F : Fun K x qual st f fd) (S : FnScope N ps (defScope st)) (hl : ∀ vs H Q E, sp vs H Q E → vs.length = ps.length)
    (body : ∀ (cdv : Value) (A : Around) (outer : List Env) (s : Shared) (H : Hp) (vs : List V) (Q : VK) (E : XK), A.guards = some [] → Room k (A.deeper (envOfC qual (defScope st) s.heap.objs.size f cdv)) → sp vs H Q E →
      ∃ t, PSs (cxOf CX0 P w K mg base N qual (defScope st) f cdv A outer s H E).nox (defBody st) t ∧ t { nx := fun _ H' => Q .non H', rt := Q } (start N vs) H) : FnG P w K mg base CX0 (k + 1) f fd ps sp := by
  obtain ⟨c1, c2, c3, c4, c5, c6, c7, c8, c9, rfl, here, rec⟩ := F.ex
  refine ⟨hl, fun A outer s H args us vs Q E gd room e0 bd rv hs => ?_⟩
  have up : ∀ b o, base.get? b = some o → s.heap.get? b = some o := fun b o q => (e0.bs b o q).1
  have kin : K.In s.heap := e0.mod.kin.keeps up
  refine codeAny_call_function room.depth (kin _ _ here) rfl S.co S.gen rfl (PySem.W.codeRec_of kin rec) (bd _ _ _ _ ?_)
  refine wpAny_newFunctionEnv_cells S.kind (fun y hy => ?_) fun env he s1 inC => ?_
  · rcases S.par y.1 (List.of_mem_zip (show (y.1, y.2) ∈ _ from hy)).1 with q | q
    · exact Or.inl q
    · exact Or.inr ⟨q, PySem.W.cellsFrom_some _ _ _ (Or.inl q)⟩
  cases he
  refine ⟨(e0.mod.nolimit.keeps up).keeps inC.toInCall.keep, codeAny_func ?_⟩
  obtain ⟨t, pt, q⟩ := body c7 A outer s H vs Q E gd (room.deeper _) hs
  refine wpAny_mono (pt.nox.run [] s1 _ H _ (inv_start S room.hd e0 (hl _ _ _ _ hs) rv inC) q) (fun fl s' z => ?_) fun _ _ z => z
  have done : ∀ (σ' : L2.St) (H' : Hp) (v : V) (u : Value), Inv (cxOf CX0 P w K mg base N qual (defScope st) f c7 A outer s H E) [] σ' H' s' → RelV v u → Q v H' → CE outer P w H s Q u s' :=
    fun σ' H' v u J r q => ⟨v, H', J.os, J.bare, J.base, J.hok, r, q⟩
  cases fl
  case ret u => exact let ⟨v, σ', H', J, r, q⟩ := z; done σ' H' v u J r q
  case next => exact let ⟨σ', H', J, q⟩ := z; done σ' H' .non .none J rfl q
  case brk => exact let ⟨_, _, _, q⟩ := z; (q : False).elim
  case cont => exact let ⟨_, _, _, q⟩ := z; (q : False).elim
end
/-! ### the text of a container -/
def rRepr (K : PySem.W.Frag) : List V → Hp → VK → Prop := fun xs H Q => ∃ a d, xs = [.ref a] ∧ Dp K H (.ref a) d ∧ d.canLay0 = true ∧ d.depth ≤ 60 ∧ d.showable = true ∧ d.shown.length ≤ sizeLine ∧ Q (.str d.shown) H
theorem call_repr {X : Cx} (hg : X.A.guards = some []) (hu : X.A.units + 64 < cLine) : CallR X (.builtin "repr") (rRepr X.K) := by
  intro pins s σ H xs us Q I r h
  obtain ⟨a, d, rfl, dp, c1, c2, c3, c4, q⟩ := h
  obtain ⟨u, rfl, ru⟩ := r.one
  cases (show u = Value.ref a from ru)
  obtain ⟨as, rd⟩ := Dp.reads I d (.ref a) (.ref a) dp rfl
  refine repr_of_reads' rd c3 (fun z => by rw [PyData.hasDict_of_canLay d c1] at z; cases z) hg (by omega) (fun _ _ e => e) (fun h' u tk k => ?_) c4
  exact ⟨.str d.shown, H, I.kept (t' := tk) k, ⟨_, rfl⟩, q⟩
theorem gd_body {CX : CXT} {P : Program} {w : World} {K : PySem.W.Frag} {mg : Str → Option Value} {base : Heap} {N : List Str} {qual : Str} {scope : Scope} {f : Addr} {cd : Value} {A : Around} {outer : List Env} {s : Shared} {H : Hp} {E : XK} (h : A.guards = some []) :
    (cxOf CX P w K mg base N qual scope f cd A outer s H E).nox.A.guards = some [] := h
/-! ### the end of a law whose def asks for the text of a container -/
section
variable {P : Program} {w : World} {K : PySem.W.Frag} {mg mb : Str → Option Value} {CX : CXT} {k : Nat} {fa a : Addr} {fd : FuncData} {x : Str} {sp : Sp} {z : Shared} {vs : List Value} {ns : List Int}
theorem lawG (kin : K.In z.heap) (gl : z.heap.Ns mainGlobals mg) (bi : z.heap.Ns builtinsNs mb) (bb : ∀ y : Str, y ≠ "__name__" → mb y = bootBuiltins y) (nl : z.heap.NoLimit) (gn : z.gens = #[])
    (ea : z.heap.get? a = some { cls := .type "list", data := .seq vs.toArray }) (hi : IntsAre vs ns) (few : ns.length ≤ sizeLine) (room : Room k callerA)
    (F : ∀ base : Heap, K.In base → base.Ns mainGlobals mg → FnG P w K mg base CX k fa fd [x] sp) (bd : ∀ (s : Shared) (u : Value), BindsTo s fd ⟨[u], []⟩ [(x, u)])
    (says : ∀ H : Hp, Only H → SqL K H a (ns.map V.int) → sp [.ref a] H (fun v _ => v = .bl true) fun _ _ _ => False) (quiet : ∀ H e s', CX [] H z (fun _ _ _ => False) e s' → False) :
    codeAny (model P w) callerA (.call (.ref fa) ⟨[.ref a], []⟩) (fun r s' => r = .ok (.ret (.bool true)) ∧ OldK z.heap s'.heap ∧ s'.os = z.os ∧ AllBare s'.gens) z := by
  -- H tracks the script at most, and that only where it is none of the module's objects
  have main : ∀ H : Hp, Only H → (∀ b, ¬ H b = none → b = a ∧ K.lookup a = none) → SqL K H a (ns.map V.int) → HOk P w H z.heap →
      codeAny (model P w) callerA (.call (.ref fa) ⟨[.ref a], []⟩) (fun r s' => r = .ok (.ret (.bool true)) ∧ OldK z.heap s'.heap ∧ s'.os = z.os ∧ AllBare s'.gens) z := fun H only tr sq ok => by
    have dictOff : ∀ {b : Addr} {o : Obj} {es : Array DictEntry} {n : Nat}, z.heap.get? b = some o → o.data = .dict es n → H b = none := fun {b o es n} e d =>
      Classical.byContradiction fun t => by
        obtain ⟨rfl, _⟩ := tr b t
        rw [ea] at e
        cases e
        exact nomatch (show Data.seq vs.toArray _ = Data.dict es n from d)
    have spaces : ∀ {b : Addr} {m : Str → Option Value}, z.heap.Ns b m → (hidT z.heap H).Ns b m := fun q => by
      obtain ⟨o, es, n, e, d, r⟩ := q
      exact ⟨o, es, n, hidT_get e (dictOff e d), d, r⟩
    have own : K.In (hidT z.heap H) := fun b o q => hidT_get (kin b o q) (Classical.byContradiction fun t => by
      obtain ⟨rfl, n⟩ := tr b t
      rw [n] at q
      cases q)
    obtain ⟨ml, l1, l2⟩ := nl
    have start : Env0 P w K mg (hidT z.heap H) callerA [] z H :=
      { frames := rfl, mod := ⟨own, spaces gl, ⟨mb, spaces bi, bb⟩, ml, spaces l1, l2⟩, bs := fun _ _ q => of_hidT q, bsz := Nat.le_of_eq (hidT_size _ _), funs := trivial,
        frf := fun b q => (List.not_mem_nil q).elim, hok := ok, bare := .of_eq gn }
    refine codeAny_mono ((F _ own (spaces gl)).goes callerA [] z H ⟨[.ref a], []⟩ [.ref a] [.ref a] _ _ rfl room start (bd z (.ref a)) (.cons rfl .nil) (says H only sq)) fun r s' q => ?_
    match r, q with
    | .error e, q => exact (quiet H e s' q).elim
    | .ok .next, q => exact False.elim q
    | .ok .brk, q => exact False.elim q
    | .ok .cont, q => exact False.elim q
    | .ok (.ret u), q =>
      obtain ⟨v, H', os, bare, un, ok', rv, (rfl : v = .bl true)⟩ := q
      obtain rfl : u = Value.bool true := rv
      refine ⟨rfl, OldK.of_keep fun b o e => ?_, os, bare⟩
      rcases only b with n | ⟨ob, xs, t⟩
      · exact un.keep b o e n (fun m => (List.not_mem_nil m).elim) List.not_mem_nil
      · obtain ⟨h1, _⟩ := ok b _ t
        obtain ⟨h2, _⟩ := ok' b _ (un.frzs b ob _ t)
        rw [e] at h1
        cases h1
        exact h2
  have rv := vals_ints hi
  have nv := hi.length
  by_cases hk : K.lookup a = none
  · obtain ⟨S, hS⟩ : ∃ S : Hp, S = fun b => if b = a then some (HO.frz { cls := .type "list", data := .seq vs.toArray } (.lst (ns.map V.int))) else none := ⟨_, rfl⟩
    have seen : S a = some (.frz { cls := .type "list", data := .seq vs.toArray } (.lst (ns.map V.int))) := by rw [hS]; exact if_pos rfl
    have other : ∀ b, b ≠ a → S b = none := fun b e => by rw [hS]; exact if_neg e
    clear hS
    refine main S (fun b => ?_) (fun b t => ?_) (.inl (.inr ⟨_, seen⟩)) (fun b u t => ?_)
    · by_cases e : b = a
      · exact .inr ⟨_, _, by rw [e]; exact seen⟩
      · exact .inl (other b e)
    · exact ⟨Classical.byContradiction fun e => t (other b e), hk⟩
    · by_cases e : b = a
      · subst e
        rw [seen] at t
        cases t
        exact ⟨ea, by rw [List.length_map]; exact few, vs, _, rv, ea⟩
      · exact nomatch (other b e).symm.trans t
  · obtain ⟨o, q⟩ := Option.ne_none_iff_exists'.mp hk
    have e := kin a o q
    rw [ea] at e
    cases e
    exact main (fun _ => none) (fun _ => .inl rfl) (fun _ t => (t rfl).elim) (.inr ⟨_, vs.toArray, _, q, rfl, rfl, rfl, by rw [List.size_toArray, nv]; exact few, by simpa using rv⟩) fun _ _ t => nomatch (show (none : Option HO) = some _ from t)
end
theorem walkG {l : PySem.W.OpenLaw} {n k : Nat} {q : Program} {loose : List Str} {XP : (Str → Option Value) → Heap → Prop} {YP : World → Heap → Prop} {d : DefRec} {K : Params → PySem.W.Frag} {sp : World → Sp} {x : Str}
    (h1 : l.most = some n) (h2 : n ≤ sizeLine) (h3 : d.params.defaults = []) (h4 : Room k callerA) (h5 : ∀ (w : World) (h : Heap), YP w h → (K w.params).In h)
    (F : ∀ (w : World) (mg : Str → Option Value) (fa : Addr) (h : Heap), (K w.params).In h → h.Ns mainGlobals mg → mg d.name = some (.ref fa) → ∃ fd : FuncData, (∀ (s : Shared) (u : Value), BindsTo s fd ⟨[u], []⟩ [(x, u)]) ∧
      ∀ base : Heap, (K w.params).In base → base.Ns mainGlobals mg → FnG l.prog w (K w.params) mg base CX0 k fa fd [x] (sp w))
    (says : ∀ (w : World) (H : Hp) (a : Addr) (ns : List Int), ns.length ≤ n → Only H → SqL (K w.params) H a (ns.map V.int) → sp w [.ref a] H (fun v _ => v = .bl true) fun _ _ _ => False)
    (quiet : ∀ (w : World) (H : Hp) (s : Shared) (e : Value) (s' : Shared), CX0 [] H s (fun _ _ _ => False) e s' → False) :
    PySem.W.WalkO q loose XP YP l.row.toRowW d [] (fun f vs => PySem.call f vs) :=
  Att.attach_call h1 h3 fun w s₀ s₁ mg mb fa o pm cd doc a vs ns G Y ho hd hcd hmg hobj hints hlen hg => by
    obtain ⟨fd, bd, hF⟩ := F w mg fa _ (h5 w _ Y) G.T.g hmg
    exact lawG (h5 w _ Y) G.T.g G.T.b G.T.builtins G.T.nolimit hg hobj hints (Nat.le_trans hlen h2) h4 hF bd (fun H only sq => says w H a ns hlen only sq) fun H e s' => quiet w H s₁ e s'
end Jv

/-! ### == and != of an instance whose class has its own __eq__: any answer, against an instance or a tuple -/
namespace Jv
open PySem PySem.Spec PyProof.Rows L2
section
variable {prog : Program} {w : World} {A : Around} {E : Value → Shared → Prop} {s : Shared} {K : PySem.W.Frag} {x C L f : Addr} {h₀ : Heap} {m : Str → Option Value} {ox : Obj} {od : Option Obj} {b tb : Value}
theorem ifBoundB {M : Model} {name : Str} {id : String} {args : List Value} {Q : Option Value → Shared → Prop} (X : K.In s.heap) (I : PySem.W.InstAt s.heap x ox C od) (hs : PySem.W.findIn K (.ref C) name = some (some (.builtin id)))
    (hb : ∀ self, bindSpecial (.builtin id) self = pure (.builtin id, [self])) (h : wpAny M A (call (.builtin id) (.ref x :: args)) (fun v => Q (some v)) E s) : wpAny M A (callSpecialIfBound? (.ref x) name args) Q E s := by
  simp only [callSpecialIfBound?, bindSpecialIfBound?]
  refine wpAny_holding (wpAny_bind (wpAny_bind (wpAny_bind (I.type.here ((PySem.W.looks_findIn X hs).here ?_)))))
  refine wpAny_bind (wpAny_askSetting (wpAny_ite ?_))
  have fin : wpAny M A (call (.builtin id) ([.ref x] ++ args) >>= fun v => pure (some v)) Q E s := wpAny_bind (wpAny_mono h (fun v s' h' => wpAny_pure h') fun _ _ h' => h')
  simp only [hb]
  split
  · exact wpAny_bind (wpAny_pure (wpAny_pure (by exact fin)))
  · exact wpAny_tryCatch (wpAny_bind (wpAny_pure (wpAny_pure (by exact fin))))
/-- object.__ne__ asks __eq__ and turns its answer round -/
theorem obj_ne {Q : Value → Shared → Prop} (hu : A.in1.units < cLine) (X : K.In s.heap) (I : PySem.W.InstAt s.heap x ox C od) (hm : PySem.W.mroIn K C (.type "object") = some true) (hr : PySem.W.findIn K (.ref C) "__eq__" = some (some (.ref f))) (hf : PySem.W.isFn K (.ref f) = true)
    (h : wpAny (model prog w) A.in1 (call (.ref f) [.ref x, b]) (fun v s' => ∃ r, v = .bool r ∧ Q (.bool (!r)) s') E s) : wpAny (model prog w) A (call (.builtin "object.__ne__") [.ref x, b]) Q E s := by
  refine wpAny_call (codeAny_call_builtin PySem.F.slot_object_ne.plain PySem.F.entry_object_ne (PySem.W.check_slot (i := "object.__ne__") (owner := "object") (n := "__ne__") PySem.F.cmpKind_ne PySem.F.cmpSplit_ne (I.type.andThen (PySem.W.looks_mroIn X hm)) (PySem.F.cmpArgs_ne _ _) ?_))
  unfold Builtin.«object.__ne__»
  refine wpAny_bind (m := slotArgs "__ne__" 1 _) (wpAny_pure ?_)
  show wpAny _ A.in1 (do
    cRoomFor "comparison" [.ref x, b]
    let r ← callSpecialIfBound? (.ref x) (Str.ofString "__eq__") [b]
    _) _ _ s
  refine wpAny_bind (m := cRoomFor _ _) (wpAny_cRoomFor hu ?_)
  refine wpAny_bind (m := callSpecialIfBound? (.ref x) (Str.ofString "__eq__") _) (PySem.W.ifBound_K X I hr hf (wpAny_mono h (fun r s' hq => ?_) fun _ _ y => y))
  obtain ⟨r, rfl, hq⟩ := hq
  repeat (first | exact hq | exact wpAny_pure hq | (refine wpAny_bind (m := truthy (.bool _)) (wpAny_truthy_bool ?_)) | wp_step)
theorem ne_K {Q : Value → Shared → Prop} (hu : A.units < cLine) (hu1 : A.in1.units < cLine) (F : Fr h₀ L s.heap m) (X₀ : K.In h₀) (I : PySem.W.InstAt s.heap x ox C od) (hb : PySem.W.Looks (model prog w) s.heap (typeOf b) tb) (hn : PySem.W.notFirst K C tb = true)
    (hs : PySem.W.findIn K (.ref C) "__ne__" = some (some (.builtin "object.__ne__"))) (hm : PySem.W.mroIn K C (.type "object") = some true) (hr : PySem.W.findIn K (.ref C) "__eq__" = some (some (.ref f))) (hf : PySem.W.isFn K (.ref f) = true)
    (h : wpAny (model prog w) A.in1 (call (.ref f) [.ref x, b]) (fun v s' => ∃ r, v = .bool r ∧ Q (.bool (!r)) s') E s) : wpAny (model prog w) A (richCompare .NotEq (.ref x) b) Q E s := by
  have X := X₀.keeps F.keep
  have one : wpAny (model prog w) A (tryCompare (.ref x) "__ne__" b) (fun r s' => ∃ v, r = some v ∧ Q v s') E s := by
    unfold tryCompare
    refine wpAny_bind (ifBoundB X I hs PySem.F.slot_object_ne.bind (obj_ne hu1 X I hm hr hf (wpAny_mono h (fun v s' hv => ?_) fun _ _ e => e)))
    obtain ⟨r, rfl, hq⟩ := hv
    exact ⟨r, rfl, wpAny_pure ⟨_, rfl, hq⟩⟩
  unfold richCompare
  simp only [oneThing_ref]
  refine wpAny_holding (wpAny_bind (wpAny_cRoomFor hu ?_))
  rw [cmpInfo_NotEq]
  dsimp only
  refine wpAny_bind (I.type.here (wpAny_bind (hb.here ?_)))
  split
  · rename_i q
    have e : PySem.W.subIn K tb (.ref C) = some false := by
      rcases Bool.or_eq_true_iff.mp hn with e | e
      · rw [beq_iff_eq.mp e] at q; simp at q
      · exact beq_iff_eq.mp e
    refine wpAny_bind ((PySem.W.looks_subIn X e).here ?_)
    simp only [Bool.false_eq_true, if_false]
    refine wpAny_bind (wpAny_mono one (fun r s' z => ?_) fun _ _ e => e)
    obtain ⟨v, rfl, hq⟩ := z
    exact wpAny_pure hq
  · refine wpAny_bind (wpAny_pure ?_)
    simp only [Bool.false_eq_true, if_false]
    refine wpAny_bind (wpAny_mono one (fun r s' z => ?_) fun _ _ e => e)
    obtain ⟨v, rfl, hq⟩ := z
    exact wpAny_pure hq
end
section
variable {X : Cx} {CX : CXT} {pins : List (Addr × Obj)} {σ : L2.St} {H : Hp} {s : Shared} {C f : Addr} {fd : FuncData} {ps : List Str} {k : Nat} {sp : Sp} {E : XK}
theorem run_in {A : Around} {Q : VK} {us : List Value} {ws : List V} (F : FnOk X.prog X.w X.K X.mg X.base CX k f fd ps sp) (hb : Binds X.K fd ps []) (hr : Room k A) (hf : A.frames = X.A.frames) (hx : Passes CX X E) (I : Inv X pins σ H s) (r : Vals ws us) (h : sp ws H Q E) :
    wpAny (model X.prog X.w) A (call (.ref f) us) (EP X pins σ Q) X.xe s := by
  have e0 : Env0 X.prog X.w X.K X.mg X.base A X.stack s H := by
    have e := I.env0
    exact ⟨by rw [hf]; exact e.frames, e.mod, e.bs, e.bsz, e.funs, e.frf, e.hok, e.bare⟩
  have hl : us.length = ps.length := by rw [← r.length]; exact F.len _ _ _ _ h
  refine wpAny_call (codeAny_mono (F.run A X.stack s H ⟨us, []⟩ us ws Q E hr e0 (by
    have := hb s us I.kIn (by simpa using hl)
    simpa using this) r h) fun r s' hq => ?_)
  cases r with
  | error e => exact hx pins σ H s e s' I hq
  | ok fl =>
    cases fl with
    | ret u => exact I.after hq
    | next => exact False.elim hq
    | brk => exact False.elim hq
    | cont => exact False.elim hq
/-- x op y: x an instance of the class at C, y one too or a tuple -/
def rEqO (K : PySem.W.Frag) (C : Addr) (sp : Sp) (E : XK) : R2 := fun x y H Q => ∃ a dx fs b, x = .ref a ∧ y = .ref b ∧ H a = some (.ins C dx fs) ∧ ((∃ dy gs, H b = some (.ins C dy gs)) ∨ ∃ ys, SqT K H b ys) ∧ sp [x, y] H (fun v H' => ∃ r, v = .bl r ∧ Q (.bl r) H') E
def rNeO (K : PySem.W.Frag) (C : Addr) (sp : Sp) (E : XK) : R2 := fun x y H Q => ∃ a dx fs b, x = .ref a ∧ y = .ref b ∧ H a = some (.ins C dx fs) ∧ ((∃ dy gs, H b = some (.ins C dy gs)) ∨ ∃ ys, SqT K H b ys) ∧ sp [x, y] H (fun v H' => ∃ r, v = .bl r ∧ Q (.bl (!r)) H') E
theorem looksO {b : Addr} (I : Inv X pins σ H s) (nt : PySem.W.notFirst X.K C (.type "tuple") = true) (h : (∃ dy gs, H b = some (.ins C dy gs)) ∨ ∃ ys, SqT X.K H b ys) : ∃ tb, PySem.W.Looks (model X.prog X.w) s.heap (typeOf (.ref b)) tb ∧ PySem.W.notFirst X.K C tb = true := by
  rcases h with ⟨dy, gs, hb⟩ | ⟨ys, hb⟩
  · obtain ⟨mB, J', _⟩ := ins_get I.hok hb
    obtain ⟨od', J', _⟩ := J'.look
    exact ⟨.ref C, J'.type, by simp [PySem.W.notFirst]⟩
  · obtain ⟨its, r, e, z⟩ := I.tuple hb
    obtain ⟨o, ho, hc, n, hd⟩ := id e
    have h1 : PySem.W.Looks (model X.prog X.w) s.heap (typeOf (.ref b)) o.cls := PySem.W.Looks.ld (part := none) ho |>.andThen .now
    rw [hc] at h1
    exact ⟨_, h1, nt⟩
theorem op_eqO (F : FnOk X.prog X.w X.K X.mg X.base CX k f fd ps sp) (hm : Meth X.K C "__eq__" f) (nt : PySem.W.notFirst X.K C (.type "tuple") = true) (hr : Room k X.A) (hb : Binds X.K fd ps []) (hx : Passes CX X E) : OpR X (compareOp .Eq) (rEqO X.K C sp E) := by
  intro pins s σ H x y v u Q I rx ry h
  obtain ⟨a, dx, fs, b, rfl, rfl, ha, hy, q⟩ := h
  cases (show v = Value.ref a from rx)
  cases (show u = Value.ref b from ry)
  obtain ⟨mA, J, _⟩ := ins_get I.hok ha
  obtain ⟨od, J, _⟩ := J.look
  obtain ⟨m, hF⟩ := I.fr
  obtain ⟨tb, hl, hn⟩ := looksO I nt hy
  show wpAny (model X.prog X.w) X.A (richCompare .Eq (.ref a) (.ref b)) _ _ s
  refine PySem.W.cmp_K (op := .Eq) (tb := tb) hr.units0 hF I.ok.mod.kin J hl hn hm.at_ hm.fn ?_
  refine wpAny_mono (run_in (us := [.ref a, .ref b]) (ws := [.ref a, .ref b]) F hb hr rfl hx I (.cons rfl (.cons rfl .nil)) q) (fun w s' z => ?_) fun _ _ x => x
  obtain ⟨z', H', I', rz, r, er, qz⟩ := z
  subst er
  cases (show w = Value.bool r from rz)
  exact ⟨.bl r, H', I', rfl, qz⟩
theorem op_neO (F : FnOk X.prog X.w X.K X.mg X.base CX k f fd ps sp) (hm : Meth X.K C "__eq__" f) (hs : PySem.W.findIn X.K (.ref C) "__ne__" = some (some (.builtin "object.__ne__"))) (ho : PySem.W.mroIn X.K C (.type "object") = some true) (nt : PySem.W.notFirst X.K C (.type "tuple") = true)
    (hr : Room (k + 1) X.A) (hb : Binds X.K fd ps []) (hx : Passes CX X E) : OpR X (compareOp .NotEq) (rNeO X.K C sp E) := by
  intro pins s σ H x y v u Q I rx ry h
  obtain ⟨a, dx, fs, b, rfl, rfl, ha, hy, q⟩ := h
  cases (show v = Value.ref a from rx)
  cases (show u = Value.ref b from ry)
  obtain ⟨mA, J, _⟩ := ins_get I.hok ha
  obtain ⟨od, J, _⟩ := J.look
  obtain ⟨m, hF⟩ := I.fr
  obtain ⟨tb, hl, hn⟩ := looksO I nt hy
  show wpAny (model X.prog X.w) X.A (richCompare .NotEq (.ref a) (.ref b)) _ _ s
  refine ne_K (tb := tb) hr.units0 hr.in1.units0 hF I.ok.mod.kin J hl hn hs ho hm.at_ hm.fn ?_
  refine wpAny_mono (run_in (us := [.ref a, .ref b]) (ws := [.ref a, .ref b]) F hb hr.in1 rfl hx I (.cons rfl (.cons rfl .nil)) q) (fun w s' z => ?_) fun _ _ x => x
  obtain ⟨z', H', I', rz, r, er, qz⟩ := z
  subst er
  cases (show w = Value.bool r from rz)
  exact ⟨r, rfl, .bl (!r), H', I', rfl, qz⟩
end
/-- what isinstance takes as the type of a tuple -/
theorem tyT {K : PySem.W.Frag} {H : Hp} {a : Addr} {xs : List V} (h : SqT K H a xs) : TyX K H (.ref a) (.type "tuple") := by
  rcases h with (h | ⟨o, h⟩) | h
  · exact .base (.tup h)
  · exact .fTuple h
  · obtain ⟨o, _, _, e, c, _⟩ := h
    exact .kTuple e c
end Jv

/-! ### enumerate of a tuple -/
namespace Jv
open PySem PySem.Spec PyProof.Rows L2
open PySem.Sem (wp)
/-- the cell that enumerate lays over an iterator -/
def enCell (it : Addr) : Obj := { cls := .type "enumerate", data := .fields #[.none, .bool false, .ref it, rawInt 0, .none, .none] }
set_option maxHeartbeats 1000000 in
theorem meets_en {v : Value} {o : Obj} {G : Heap → Prop} (B : Begins v o G) :
    Meets (Builtin.«enumerate.__new__» ⟨[.type "enumerate", v], []⟩) (fun _ R s => G s.heap ∧ R (.ok (.ret (.ref (s.heap.push o).objs.size))) { s with heap := (s.heap.push o).push (enCell s.heap.objs.size) }) := by
  refine .of_wp fun prog w A R s h => ?_
  obtain ⟨hp, gg, dd, tk, os⟩ := s
  obtain ⟨hG, h⟩ := h
  have h0 := sub_enumerate
  have walks : ∀ {A' : Around} {E : Value → Shared → Prop} {Q : Value → Shared → Prop}, Q (.ref hp.objs.size) ⟨hp.push o, gg, dd, tk, os⟩ → wpAny (model prog w) A' (pyIter v) Q E ⟨hp, gg, dd, tk, os⟩ :=
    fun {A' E Q} z => B.iter prog w A' E ⟨hp, gg, dd, tk, os⟩ Q hG z
  wp_walk using walks
  refine wpAny_stack_any fun st => wpAny_pure ?_
  split
  · rename_i c _ _ _ _ _
    by_cases hc : (c == Value.type "enumerate") = true
    · simp only [hc]
      wp_walk using walks
      exact ⟨_, rfl, h⟩
    · simp only [hc]
      wp_walk using walks
      exact ⟨_, rfl, h⟩
  · wp_walk using walks
    exact ⟨_, rfl, h⟩
section
variable {prog : Program} {w : World} {A : Around} {E : Value → Shared → Prop} {s : Shared}
theorem call_en {v : Value} {o : Obj} {G : Heap → Prop} {Q : Value → Shared → Prop} (B : Begins v o G) (hG : G s.heap)
    (h : ∀ g, IsEnum g (s.heap.objs.size + 1) s.heap.objs.size 0 .none → g.get? s.heap.objs.size = some o → (∀ b u, s.heap.get? b = some u → g.get? b = some u) → Q (.ref (s.heap.objs.size + 1)) { s with heap := g }) :
    wpAny (model prog w) A (call (.type "enumerate") [v]) Q E s := by
  have sz : (s.heap.push o).objs.size = s.heap.objs.size + 1 := Heap.size_push ..
  have at1 : IsEnum ((s.heap.push o).push (enCell s.heap.objs.size)) (s.heap.objs.size + 1) s.heap.objs.size 0 .none := by
    have q := Heap.get?_push_size (s.heap.push o) (o := enCell s.heap.objs.size) rfl
    rw [sz] at q; exact q
  refine callType_new F.called_enumerate (by decide) (F.typeCall_enumerate_1 _) (F.newCall_enumerate_1 _) (fun obj => F.args_object_init_2 obj _) F.entry_enumerate_new (meets_en B) ⟨hG, ?_⟩
  show _ ∧ _
  rw [sz]
  exact ⟨⟨_, at1, rfl⟩, h _ at1 (Heap.get?_push_of_some _ (Heap.get?_push_size _ B.free)) fun b u x => Heap.get?_push_of_some _ (Heap.get?_push_of_some _ x)⟩
end
/-- the tuple at a, each item in a new pair behind its place -/
def Iet (K : PySem.W.Frag) (a : Addr) : It :=
  ⟨fun i H => ∃ (xs : List V) (x : V), SqT K H a xs ∧ xs[i]? = some x, fun i H v H' => ∃ T x, v = .ref T ∧ H T = none ∧ H' = upd H T (.tup [.int (i : Nat), x]) ∧ ∀ xs, SqT K H a xs → xs[i]? = some x, fun i H => ∃ xs : List V, SqT K H a xs ∧ xs.length = i⟩
theorem apart_it {h : Heap} {it a : Addr} {i : Nat} {vs : Array Value} (t : h.IsTupleIter it a i) (p : h.IsTuple a vs) : a ≠ it := fun e => by
  obtain ⟨o, ho, hc, _⟩ := t
  obtain ⟨o2, ho2, hc2, _⟩ := p
  rw [e, ho] at ho2
  cases ho2
  rw [hc] at hc2
  exact absurd (PySem.Value.type.inj hc2) (by decide)
theorem apart_en {h : Heap} {e it a : Addr} {j : Int} {old : Value} {vs : Array Value} (t : IsEnum h e it j old) (p : h.IsTuple a vs) : e ≠ a := fun x => by
  obtain ⟨o2, ho2, hc2, _⟩ := p
  rw [← x, t] at ho2
  cases ho2
  exact absurd (PySem.Value.type.inj hc2) (by decide)
theorem turn_enT {P : Program} {w : World} {K : PySem.W.Frag} {elts : List Expr} {kk : Nat} {tpos : Pos} (a e it : Addr) :
    Turn P w K (.Tuple elts kk tpos) (Iet K a) [e, it] e (fun i h => (∃ old, IsEnum h e it ((i : Nat) : Int) old) ∧ h.IsTupleIter it a i ∧ e ≠ it) where
  mem := List.mem_cons_self
  obj := fun i h st b hb => by
    obtain ⟨⟨old, he⟩, ⟨o, ho, hc, hd⟩, _⟩ := st
    rcases List.mem_cons.mp hb with rfl | hb
    · exact ⟨_, he, fun v q => nomatch q⟩
    · rw [List.mem_singleton.mp hb]
      exact ⟨o, ho, fun v q => by rw [hd] at q; cases q⟩
  keep := fun i h h' st k => by
    obtain ⟨⟨old, he⟩, hi, hne⟩ := st
    exact ⟨⟨old, k e List.mem_cons_self _ he⟩, hi.at fun o q => k it (List.mem_cons_of_mem _ (List.mem_singleton.mpr rfl)) o q, hne⟩
  item := by
    intro X hP hw hK hc i pins s σ H E I hf st hg
    subst hP hw hK
    obtain ⟨⟨old, he⟩, hit, hne⟩ := st
    obtain ⟨xs, x, hq, hx⟩ := hg
    obtain ⟨its, rv, p, hz⟩ := I.tuple hq
    obtain ⟨u, hu, ru⟩ := rv.get hx
    have le : e < s.heap.objs.size := Heap.lt_size he
    have li : it < s.heap.objs.size := by obtain ⟨_, q, _⟩ := hit; exact Heap.lt_size q
    have ea := apart_en he p
    have lt : i < its.toArray.size := by
      rw [List.size_toArray]
      exact (List.getElem?_eq_some_iff.mp hu).1
    refine wpAny_pyNext_enum_itemD (Draws.tuple (A := X.A.in1) (I.ok.hd hc) it a (apart_it hit p) its.toArray) he ⟨hit, p⟩ lt hne (fun m => ?_) fun x' h' tk hP ho hst' hT hsz hk => ?_
    · rcases List.mem_cons.mp m with m | m
      · exact hne m
      · exact ea (List.mem_singleton.mp m)
    obtain rfl : x' = u := by
      have : its.toArray[i]? = some u := by simpa using hu
      rw [this] at hP; exact (Option.some.inj hP).symm
    refine ⟨_, rfl, wpAny_letOwnedTupleGo_enum (s := { s with heap := h', toks := tk + 1 }) ho fun h'' he' sb => ?_⟩
    have hT2 : h''.get? s.heap.objs.size = some { cls := .type "tuple", data := .seq #[.int i tk, x'] } := (sb.2 _ (Nat.ne_of_gt le)).trans hT
    have new : ObjOk X.prog X.w (upd H s.heap.objs.size (.tup [.int (i : Nat), x])) h'' s.heap.objs.size (.tup [.int (i : Nat), x]) :=
      ⟨by show 2 ≤ sizeLine; decide, [.int i tk, x'], .cons ⟨_, rfl⟩ (.cons ru .nil), ⟨_, hT2, rfl, _, rfl⟩⟩
    have I1 : Inv X pins σ (upd H s.heap.objs.size (.tup [.int (i : Nat), x])) { s with heap := h'', toks := tk + 1 } :=
      I.turnedNew (ch := [e, it]) (fun b ob hb q => (sb.2 b (fun z => hb (by simp [z]))).trans (hk b ob (fun z => hb (by simp [z])) (fun z => hb (by simp [z])) q)) hf (Nat.le_refl _) new
    refine ⟨.ref s.heap.objs.size, _, I1, rfl, ⟨_, x, rfl, I.hok.fresh (Nat.le_refl _), rfl, fun ys hy => by rw [I.tuple_inj hy hq]; exact hx⟩, ⟨⟨x', ?_⟩, hst'.1.at fun o q => (sb.2 it (Ne.symm hne)).trans q, hne⟩, fun b hb => ?_⟩
    · have e1 : ((i + 1 : Nat) : Int) = (i : Int) + 1 := by omega
      rw [e1]; exact he'
    · have lb : b < s.heap.objs.size := by
        rcases List.mem_cons.mp hb with z | z
        · rw [z]; exact le
        · rw [List.mem_singleton.mp z]; exact li
      rw [upd_ne (Nat.ne_of_lt lb)]
      exact (hf b hb).1
  done := by
    intro X hP hw hK hc i pins s σ H E I hf st hg
    subst hP hw hK
    obtain ⟨⟨old, he⟩, hit, hne⟩ := st
    obtain ⟨xs, hq, hx⟩ := hg
    obtain ⟨its, rv, p, hz⟩ := I.tuple hq
    obtain ⟨f0, f1, f2, f3, f4, f5⟩ := hf it (List.mem_cons_of_mem _ (List.mem_singleton.mpr rfl))
    have hl : i = its.toArray.size := by rw [List.size_toArray, ← rv.length]; exact hx.symm
    subst hl
    exact wpAny_pyNext_enum_endD (Draws.tuple (A := X.A.in1) (I.ok.hd hc) it a (apart_it hit p) its.toArray) he ⟨hit, p⟩ fun h' eb => ⟨rfl, I.turned (t' := s.toks) (fun b o hb q => eb b o hb q) f0 f1 f3 f4 f5⟩
  self := fun A i s Q E st h => let ⟨⟨_, he⟩, _⟩ := st; wpAny_pyIter_enum he h
def iEnT (K : PySem.W.Frag) (ta : TA) : TI := fun σ H R => ta σ H fun vs H1 => ∃ a xs, vs = [.ref a] ∧ SqT K H1 a xs ∧ R (Iet K a) H1
theorem pi_enT {X : Cx} {e : Expr} {ta : TA} {p pos tpos : Pos} {elts : List Expr} {kk : Nat} (hg : Gl X "enumerate") (hm : X.mg "enumerate" = none) (ha : PA X [e] ta) (hs : starEach [e] X.env = [(false, eval e X.env)] := by rfl) :
    PI X (.Tuple elts kk tpos) (.Call (.Name "enumerate" p) [e] [] pos) (iEnT X.K ta) := by
  refine ⟨fun pins s σ H R I h => ?_⟩
  refine Call_ (ld_blt I hg hm boot_enumerate (PyProof.Rows.callWith_type1 (thn (ha.run pos pins s σ H _ I h) fun us s1 ⟨vs, H1, I1, r1, q1⟩ => ?_) hs rfl))
  obtain ⟨a, xs, rfl, hq, q⟩ := q1
  cases r1 with
  | cons r rr =>
    cases rr
    cases r
    obtain ⟨its, rv, p', hz⟩ := I1.tuple hq
    refine call_en (begins_tuple a its.toArray) p' fun g he hit hk => wpAny_pyIter_enum he ?_
    have I2 : Inv X pins σ H1 { s1 with heap := g } := I1.kept (t' := s1.toks) hk
    refine ⟨s1.heap.objs.size + 1, [s1.heap.objs.size + 1, s1.heap.objs.size], _, _, H1, rfl, I2, turn_enT a (s1.heap.objs.size + 1) s1.heap.objs.size, ⟨⟨.none, he⟩, ⟨_, hit, rfl, rfl⟩, Nat.succ_ne_self _⟩, fun b hb => ?_, q⟩
    have hle : s1.heap.objs.size ≤ b := by
      rcases List.mem_cons.mp hb with z | z
      · rw [z]; exact Nat.le_add_right _ _
      · rw [List.mem_singleton.mp z]; exact Nat.le_refl _
    exact I1.fpOk hle (I1.hok.fresh hle)
section
variable {K : PySem.W.Frag} {a : Addr} {xs : List V} {x : V} {σ : L2.St} {H : Hp} {ta : TA} {i : Nat}
theorem r_iEt {P : It → Hp → Prop} (h : ta σ H fun vs H1 => ∃ b ys, vs = [.ref b] ∧ SqT K H1 b ys ∧ P (Iet K b) H1) : iEnT K ta σ H P := h
theorem walk_enT : Walk (Iet K a) xs.length (fun H => SqT K H a xs) (YPair (fun i => some (.int (i : Nat))) (fun i => xs[i]?)) := by
  refine ⟨fun i _ hi q => ⟨xs, xs[i], q, by simp [hi]⟩, fun _ q => ⟨xs, q, rfl⟩, fun i H v H' _ q y => ?_⟩
  obtain ⟨T, x, h1, h2, h3, h4⟩ := y
  exact ⟨T, .int (i : Nat), x, h1, h2, h3, rfl, h4 xs q⟩
/-- a loop over enumerate of a name that holds a list or a tuple that stays -/
theorem for_en {g : TG} {tb : TS} {D : Ends} {H0 : Hp} (hv : σ[i]? = some (some x)) (hx : Sk K H0 x xs) (s0 : Same H0 H) (Pv : Nat → L2.St → Hp → Prop) (h0 : Pv 0 σ H) (hl : ∀ j σ' H', Pv j σ' H' → Same H0 H')
    (hs : ∀ j v T σ' H', xs[j]? = some v → H' T = none → Pv j σ' H' → g (.ref T) σ' (upd H' T (.tup [.int (j : Nat), v])) fun σ2 H2 => tb { D with nx := Pv (j + 1), ct := Pv (j + 1), bk := D.nx } σ2 H2) (hd : ∀ σ' H', Pv xs.length σ' H' → D.nx σ' H') :
    iEnum K (tCons (tVar i) tNil) σ H (fun it H1 => ∃ W : Nat → Nat → L2.St → Hp → Prop, (∃ m, W 0 m σ H1) ∧ ∀ i m σ H, W i m σ H →
      (it.stop i H ∧ D.nx σ H) ∨ (it.go i H ∧ ∃ N : L2.St → Hp → Prop, (∀ σ' H', N σ' H' → ∃ m', m' < m ∧ W (i + 1) m' σ' H') ∧ ∀ x H', it.yld i H x H' → g x σ H' fun σ2 H2 => tb { D with nx := N, ct := N, bk := D.nx } σ2 H2)) ∨
    iEnT K (tCons (tVar i) tNil) σ H (fun it H1 => ∃ W : Nat → Nat → L2.St → Hp → Prop, (∃ m, W 0 m σ H1) ∧ ∀ i m σ H, W i m σ H →
      (it.stop i H ∧ D.nx σ H) ∨ (it.go i H ∧ ∃ N : L2.St → Hp → Prop, (∀ σ' H', N σ' H' → ∃ m', m' < m ∧ W (i + 1) m' σ' H') ∧ ∀ x H', it.yld i H x H' → g x σ H' fun σ2 H2 => tb { D with nx := N, ct := N, bk := D.nx } σ2 H2)) := by
  have go : ∀ j v σ1 H1 H2, j < xs.length → Pv j σ1 H1 → YPair (fun i => some (.int (i : Nat))) (fun i => xs[i]?) j H1 v H2 → g v σ1 H2 fun σ2 H2 => tb { D with nx := Pv (j + 1), ct := Pv (j + 1), bk := D.nx } σ2 H2 := by
    rintro j v σ1 H1 H2 _ p ⟨T, y, z, rfl, hT, rfl, e1, e2⟩
    cases e1
    exact hs j z T σ1 H1 e2 hT p
  obtain ⟨a, rfl, h | h⟩ := hx
  · exact .inl ⟨_, hv, a, xs, rfl, s0.seq h, for_it walk_enum Pv h0 (fun j σ' H' _ p => (hl j σ' H' p).seq h) go hd⟩
  · exact .inr ⟨_, hv, a, xs, rfl, Jv.Same.sqT s0 h, for_it walk_enT Pv h0 (fun j σ' H' _ p => Jv.Same.sqT (hl j σ' H' p) h) go hd⟩
end
end Jv

/-! ### isinstance of an exception that an except clause has caught -/
namespace Jv
open PySem PySem.Spec PyProof.Rows L2
structure XiC (K : PySem.W.Frag) (C : Addr) : Prop where
  cl : (PySem.W.clsIn K C).isSome = true
  ga : PySem.W.findIn K (.ref C) "__getattribute__" = some (some (.builtin "BaseException.__getattribute__"))
  gg : PySem.W.findIn K (.ref C) "__getattr__" = some none
  ex : PySem.W.subIn K (.ref C) (.type "BaseException") = some true
  ca : PySem.W.findIn K (.ref C) "__class__" = some (some (.builtin "object.__class__"))
  sp : PySem.W.specialIn K (.builtin "object.__class__") "__get__" = some (some (.builtin "getset_descriptor.__get__"))
  tk : PySem.W.takesIn K (.builtin "object.__class__") = some true
  mr : PySem.W.mroIn K C (.type "object") = some true
/-- isinstance(e, c): a the caught one, of an own class C, that has no fields -/
def rIsX (K : PySem.W.Frag) (a : Addr) (cls : Value) (d : Option Addr) : List V → Hp → VK → Prop := fun xs H Q => ∃ (C : Addr) (c : V) (u : Value) (b : Bool), cls = .ref C ∧ d = none ∧ XiC K C ∧ xs = [.ref a, c] ∧ ClsV c u ∧ PySem.W.kitOne K (.ref C) u = some b ∧ Q (.bl b) H
theorem call_isX {X : Cx} {a : Addr} {cls : Value} {d : Option Addr} {oe : Obj} {pn : List (Addr × Obj)} (hz : Zc cls d oe) (hf : ∃ vs, oe.data = .fields vs) : CallR (X.suite a ((a, oe) :: pn)) (.builtin "isinstance") (rIsX X.K a cls d) := by
  intro pins s σ H xs us Q I r h
  obtain ⟨C, c, u, b, rfl, rfl, T, rfl, k, e, q⟩ := h
  obtain ⟨u1, u2, rfl, r1, r2⟩ := vals2 r
  have e2 := k.eq r2
  subst e2
  obtain rfl : u1 = Value.ref a := r1
  obtain ⟨ha, _⟩ := I.pin (a, oe) (List.mem_append_left _ List.mem_cons_self)
  obtain ⟨vs, hd⟩ := hf
  have J : PySem.W.InstAt s.heap a oe C none := ⟨ha, hz.1, by unfold PySem.W.notCls; rw [hd] <;> rfl, by rw [hz.2]; trivial⟩
  exact PySem.W.kia_one (PySem.W.kitx_exc T.cl T.ga T.gg T.ex T.ca T.sp T.tk T.mr) I.kIn J e (fun z => nomatch z) fun tk => ⟨.bl b, H, I.tok tk, rfl, q⟩
theorem takes_len {X : Cx} {W : WX} (t : Takes X W) : Takes X (fun cls d σ H => σ.length = X.N.length → W cls d σ H) := fun u s' ⟨a, B, sI, pins, σ, H, cls, d, e, I, nb, up, sky, na, os, ag, w⟩ =>
  t u s' ⟨a, B, sI, pins, σ, H, cls, d, e, I, nb, up, sky, na, os, ag, w I.len⟩
/-- a call whose wish of raises is chosen at the call -/
theorem pe_exL {X : Cx} {e : Expr} {W : WX} {t : XK → TE} {n : Nat} (hn : X.N.length = n) (tk : Takes X W) (h : ∀ (E : XK) (W' : WX), Takes X W' → (∀ cls d σ' H', E cls d H' → W' cls d σ' H') → PE X e (t E)) :
    PE X e (fun σ H Q => ∃ E : XK, (∀ cls d σ' H', E cls d H' → σ'.length = n → W cls d σ' H') ∧ t E σ H Q) := by
  subst hn
  exact ⟨fun pins s σ H Q I hh => by
    obtain ⟨E, hW, q⟩ := hh
    exact (h E _ (takes_len tk) hW).run pins s σ H Q I q⟩
theorem slots3 {σ : L2.St} (h : σ.length = 3) : ∃ x y z, σ = [x, y, z] := by
  match σ, h with
  | [x, y, z], _ => exact ⟨x, y, z, rfl⟩
end Jv

/-! ### zip of a tuple and a list -/
namespace Jv
open PySem PySem.Spec PyProof.Rows L2
open PySem.Sem (wp)
def ItzM (K : PySem.W.Frag) (a b : Addr) : It :=
  ⟨fun i H => ∃ (xs ys : List V) (x y : V), SqT K H a xs ∧ SqL K H b ys ∧ xs[i]? = some x ∧ ys[i]? = some y,
    fun i H v H' => ∃ T x y, v = .ref T ∧ H T = none ∧ H' = upd H T (.tup [x, y]) ∧ (∀ xs, SqT K H a xs → xs[i]? = some x) ∧ ∀ ys, SqL K H b ys → ys[i]? = some y,
    fun i H => ∃ xs ys : List V, SqT K H a xs ∧ SqL K H b ys ∧ i ≤ xs.length ∧ i ≤ ys.length ∧ (i = xs.length ∨ i = ys.length)⟩
theorem turn_zipM {P : Program} {w : World} {K : PySem.W.Frag} {elts : List Expr} {kk : Nat} {tpos : Pos} {a b z TI TO i1 i2 : Addr} (D : ZipSep2 z TI TO i1 i2 [i1, a] [i2, b]) (n1 : a ≠ i1) (n2 : b ≠ i2) :
    Turn P w K (.Tuple elts kk tpos) (ItzM K a b) [z, TI, TO, i1, i2] z (fun i h => IsZip h z TI TO .none ∧ IsPair h TI (.ref i1) (.ref i2) ∧ (∃ x y, IsPair h TO x y) ∧ h.IsTupleIter i1 a i ∧ h.IsListIter i2 b i) where
  mem := by simp
  obj := fun i h st c hc => by
    obtain ⟨hz, hTI, ⟨x, y, hTO⟩, ⟨o1, e1, _, d1⟩, ⟨o2, e2, _, d2⟩⟩ := st
    have e' : c = z ∨ c = TI ∨ c = TO ∨ c = i1 ∨ c = i2 := by simpa using hc
    rcases e' with q | q | q | q | q
    · rw [q]; exact ⟨_, hz, fun v q => nomatch q⟩
    · rw [q]; exact ⟨_, hTI, fun v q => nomatch q⟩
    · rw [q]; exact ⟨_, hTO, fun v q => nomatch q⟩
    · rw [q]; exact ⟨o1, e1, fun v q => by rw [d1] at q; cases q⟩
    · rw [q]; exact ⟨o2, e2, fun v q => by rw [d2] at q; cases q⟩
  keep := fun i h h' st k => by
    obtain ⟨hz, hTI, ⟨x, y, hTO⟩, h1, h2⟩ := st
    exact ⟨k z (by simp) _ hz, k TI (by simp) _ hTI, ⟨x, y, k TO (by simp) _ hTO⟩, h1.at fun o q => k i1 (by simp) o q, h2.at fun o q => k i2 (by simp) o q⟩
  item := by
    intro X hP hw hK hc i pins s σ H E I hf st hg
    subst hP hw hK
    obtain ⟨hz, hTI, ⟨x0, y0, hTO⟩, h1, h2⟩ := st
    obtain ⟨xs, ys, x, y, hqx, hqy, hx, hy⟩ := hg
    obtain ⟨its, rv, p, _⟩ := I.tuple hqx
    obtain ⟨its2, rv2, p2, _⟩ := I.list hqy
    obtain ⟨u, hu, ru⟩ := rv.get hx
    obtain ⟨u2, hu2, ru2⟩ := rv2.get hy
    have hzl : z < s.heap.objs.size := Heap.lt_size hz
    have lt1 : i < its.toArray.size := by rw [List.size_toArray]; exact (List.getElem?_eq_some_iff.mp hu).1
    have lt2 : i < its2.toArray.size := by rw [List.size_toArray]; exact (List.getElem?_eq_some_iff.mp hu2).1
    refine wpAny_pyNext_zipD2_item D (Draws.tuple (A := X.A.in1) (I.ok.hd hc) i1 a n1 its.toArray) (Draws.list (A := X.A.in1) (I.ok.hd hc) i2 b n2 its2.toArray) hz hTI hTO ⟨h1, p⟩ ⟨h2, p2.isList⟩ lt1 lt2 fun x1 x2 h' tk P1 P2 z' TO' s1 s2 hT hsz hk => ?_
    obtain rfl : x1 = u := by
      have : its.toArray[i]? = some u := by simpa using hu
      rw [this] at P1; exact (Option.some.inj P1).symm
    obtain rfl : x2 = u2 := by
      have : its2.toArray[i]? = some u2 := by simpa using hu2
      rw [this] at P2; exact (Option.some.inj P2).symm
    have h1' := s1.1
    have h2' := s2.1
    refine ⟨_, rfl, wpAny_letOwnedTupleGo_zip (s := { s with heap := h', toks := tk }) z' fun h'' z'' sb => ?_⟩
    have hT2 : h''.get? s.heap.objs.size = some { cls := .type "tuple", data := .seq #[x1, x2] } := (sb.2 _ (Nat.ne_of_gt hzl)).trans hT
    have new : ObjOk X.prog X.w (upd H s.heap.objs.size (.tup [x, y])) h'' s.heap.objs.size (.tup [x, y]) :=
      ⟨by show 2 ≤ sizeLine; decide, [x1, x2], .cons ru (.cons ru2 .nil), ⟨_, hT2, rfl, _, rfl⟩⟩
    have I1 : Inv X pins σ (upd H s.heap.objs.size (.tup [x, y])) { s with heap := h'', toks := tk } :=
      I.turnedNew (t' := tk) (ch := [z, TI, TO, i1, i2]) (fun c o hb q => (sb.2 c (fun q' => hb (by simp [q']))).trans (hk c o (fun q' => hb (by simp [q'])) (fun q' => hb (by simp [q'])) (fun q' => hb (by simp [q'])) (fun q' => hb (by simp [q'])) q)) hf (Nat.le_refl _) new
    refine ⟨.ref s.heap.objs.size, _, I1, rfl, ⟨_, x, y, rfl, I.hok.fresh (Nat.le_refl _), rfl, fun l hl => by rw [I.tuple_inj hl hqx]; exact hx, fun l hl => by rw [I.list_inj hl hqy]; exact hy⟩, ⟨z'', ?_, ⟨x1, x2, ?_⟩, ?_, ?_⟩, fun c hcm => ?_⟩
    · exact (sb.2 _ D.TIz).trans (hk _ _ D.TIz D.TITO D.TIi1 D.TIi2 hTI)
    · exact (sb.2 _ D.TOz).trans TO'
    · exact h1'.at fun o q => (sb.2 _ (fun e => D.zf1 (e ▸ List.mem_cons_self))).trans q
    · exact h2'.at fun o q => (sb.2 _ (fun e => D.zf2 (e ▸ List.mem_cons_self))).trans q
    · have hlt : c < s.heap.objs.size := by
        have e' : c = z ∨ c = TI ∨ c = TO ∨ c = i1 ∨ c = i2 := by simpa using hcm
        rcases e' with q | q | q | q | q
        · rw [q]; exact hzl
        · rw [q]; exact Heap.lt_size hTI
        · rw [q]; exact Heap.lt_size hTO
        · rw [q]; obtain ⟨_, e1, _⟩ := h1; exact Heap.lt_size e1
        · rw [q]; obtain ⟨_, e2, _⟩ := h2; exact Heap.lt_size e2
      rw [upd_ne (Nat.ne_of_lt hlt)]
      exact (hf c hcm).1
  done := by
    intro X hP hw hK hc i pins s σ H E I hf st hg
    subst hP hw hK
    obtain ⟨hz, hTI, ⟨x0, y0, hTO⟩, h1, h2⟩ := st
    obtain ⟨xs, ys, hqx, hqy, le1, le2, hend⟩ := hg
    obtain ⟨its, rv, p, _⟩ := I.tuple hqx
    obtain ⟨its2, rv2, p2, _⟩ := I.list hqy
    have l1 := rv.length
    have l2 := rv2.length
    exact wpAny_pyNext_zipD2_end D (Draws.tuple (A := X.A.in1) (I.ok.hd hc) i1 a n1 its.toArray) (Draws.list (A := X.A.in1) (I.ok.hd hc) i2 b n2 its2.toArray) hz hTI hTO ⟨h1, p⟩ ⟨h2, p2.isList⟩
      (by rw [List.size_toArray]; omega) (by rw [List.size_toArray]; omega) (by rw [List.size_toArray, List.size_toArray]; omega) fun h' tk hk => ⟨rfl, I.turnedL (t' := tk) (ch := [z, TI, TO, i1, i2]) (fun c o hb q =>
      hk c o (fun q' => hb (by simp [q'])) (fun q' => hb (by simp [q'])) (fun q' => hb (by simp [q'])) (fun q' => hb (by simp [q'])) q) hf⟩
  self := fun A i s Q E st h => wpAny_pyIter_zip st.1 h
def iZipM (K : PySem.W.Frag) (ta : TA) : TI := fun σ H R => ta σ H fun vs H1 => ∃ a b xs ys, vs = [.ref a, .ref b] ∧ SqT K H1 a xs ∧ SqL K H1 b ys ∧ R (ItzM K a b) H1
theorem pi_zipM {X : Cx} {e e2 : Expr} {ta : TA} {p pos tpos : Pos} {elts : List Expr} {kk : Nat} (hg : Gl X "zip") (hm : X.mg "zip" = none) (ha : PA X [e, e2] ta)
    (hs : starEach [e, e2] X.env = (false, eval e X.env) :: starEach [e2] X.env := by rfl) (hpl : (backTo pos (starEach [e2] X.env)).any (·.1) = false := by rfl) :
    PI X (.Tuple elts kk tpos) (.Call (.Name "zip" p) [e, e2] [] pos) (iZipM X.K ta) := by
  refine ⟨fun pins s σ H R I h => ?_⟩
  refine Call_ (ld_blt I hg hm PyProof.Rows.boot_zip (PyProof.Rows.callWith_type1 (thn (ha.run pos pins s σ H _ I h) fun us s1 ⟨vs, H1, I1, r1, q1⟩ => ?_) hs hpl))
  obtain ⟨a, b, xs, ys, ex, hqx, hqy, q⟩ := q1
  subst ex
  cases r1 with
  | cons r rr =>
    cases rr with
    | cons r' rr =>
      cases rr
      cases r
      cases r'
      have fresh5 : ∀ c, c ∈ [s1.heap.objs.size + 4, s1.heap.objs.size + 2, s1.heap.objs.size + 3, s1.heap.objs.size, s1.heap.objs.size + 1] → FpOk X pins H1 c := fun c hcm => by
        have e' : c = s1.heap.objs.size + 4 ∨ c = s1.heap.objs.size + 2 ∨ c = s1.heap.objs.size + 3 ∨ c = s1.heap.objs.size ∨ c = s1.heap.objs.size + 1 := by simpa using hcm
        have hle : s1.heap.objs.size ≤ c := by
          rcases e' with z | z | z | z | z
          · rw [z]; exact Nat.le_add_right _ _
          · rw [z]; exact Nat.le_add_right _ _
          · rw [z]; exact Nat.le_add_right _ _
          · rw [z]; exact Nat.le_refl _
          · rw [z]; exact Nat.le_add_right _ _
        exact I1.fpOk hle (I1.hok.fresh hle)
      obtain ⟨its, rv, p1, _⟩ := I1.tuple hqx
      obtain ⟨its2, rv2, p2, _⟩ := I1.list hqy
      obtain ⟨o1, ho1, _⟩ := id p1
      have l1 : a < s1.heap.objs.size := Heap.lt_size ho1
      have l2 : b < s1.heap.objs.size := p2.lt
      refine zip_begins2 (begins_tuple a its.toArray) (begins_list b its2.toArray) p1 p2.isList fun h' hz hTI hTO h1 h2 hsz hk => wpAny_pyIter_zip hz ?_
      have I2 : Inv X pins σ H1 { s1 with heap := h' } := I1.kept (t' := s1.toks) hk
      exact ⟨s1.heap.objs.size + 4, [s1.heap.objs.size + 4, s1.heap.objs.size + 2, s1.heap.objs.size + 3, s1.heap.objs.size, s1.heap.objs.size + 1], _, _, H1, rfl, I2,
        turn_zipM (zip_sep2 (fun c hc => by rw [List.mem_singleton.mp hc]; exact l1) (fun c hc => by rw [List.mem_singleton.mp hc]; exact l2)) (Nat.ne_of_lt l1) (Nat.ne_of_lt (Nat.lt_succ_of_lt l2)),
        ⟨hz, hTI, ⟨_, _, hTO⟩, ⟨_, h1, rfl, rfl⟩, ⟨_, h2, rfl, rfl⟩⟩, fresh5, q⟩
/-- zip of two lists, of two tuples, of a tuple and a list -/
def iZipX (K : PySem.W.Frag) (ta : TA) : TI := fun σ H R => RZ.iZipA K ta σ H R ∨ iZipM K ta σ H R
theorem pi_zipX {X : Cx} {e e2 : Expr} {ta : TA} {p pos tpos : Pos} {elts : List Expr} {kk : Nat} (hg : Gl X "zip") (hm : X.mg "zip" = none) (ha : PA X [e, e2] ta)
    (hs : starEach [e, e2] X.env = (false, eval e X.env) :: starEach [e2] X.env := by rfl) (hpl : (backTo pos (starEach [e2] X.env)).any (·.1) = false := by rfl) :
    PI X (.Tuple elts kk tpos) (.Call (.Name "zip" p) [e, e2] [] pos) (iZipX X.K ta) := ⟨fun pins s σ H R I h => h.elim ((RZ.pi_zipA hg hm ha hs hpl).run pins s σ H R I) ((pi_zipM hg hm ha hs hpl).run pins s σ H R I)⟩
section
variable {K : PySem.W.Frag} {a b : Addr} {xs ys : List V} {n : Nat}
theorem walk_zipM (hn : n = min xs.length ys.length) : Walk (ItzM K a b) n (fun H => SqT K H a xs ∧ SqL K H b ys) (YPair (fun i => xs[i]?) (fun i => ys[i]?)) := by
  refine ⟨fun i H hi q => ⟨xs, ys, xs[i]'(by omega), ys[i]'(by omega), q.1, q.2, by simp [show i < xs.length by omega], by simp [show i < ys.length by omega]⟩, fun H q => ⟨xs, ys, q.1, q.2, by omega, by omega, by omega⟩, fun i H v H' _ q y => ?_⟩
  obtain ⟨T, x, y, h1, h2, h3, h4, h5⟩ := y
  exact ⟨T, x, y, h1, h2, h3, h4 xs q.1, h5 ys q.2⟩
theorem walk_zipA (hn : n = min xs.length ys.length) : Walk (RZ.ItzT K a b) n (fun H => SqT K H a xs ∧ SqT K H b ys) (YPair (fun i => xs[i]?) (fun i => ys[i]?)) := by
  refine ⟨fun i H hi q => ⟨xs, ys, xs[i]'(by omega), ys[i]'(by omega), q.1, q.2, by simp [show i < xs.length by omega], by simp [show i < ys.length by omega]⟩, fun H q => ⟨xs, ys, q.1, q.2, by omega⟩, fun i H v H' _ q y => ?_⟩
  obtain ⟨T, x, y, h1, h2, h3, h4, h5⟩ := y
  exact ⟨T, x, y, h1, h2, h3, h4 xs q.1, h5 ys q.2⟩
theorem walk_zipL (hn : n = min xs.length ys.length) : Walk (Itz K a b) n (fun H => SqL K H a xs ∧ SqL K H b ys) (YPair (fun i => xs[i]?) (fun i => ys[i]?)) := by
  refine ⟨fun i H hi q => ⟨xs, ys, xs[i]'(by omega), ys[i]'(by omega), q.1, q.2, by simp [show i < xs.length by omega], by simp [show i < ys.length by omega]⟩, fun H q => ⟨xs, ys, q.1, q.2, by omega⟩, fun i H v H' _ q y => ?_⟩
  obtain ⟨T, x, y, h1, h2, h3, h4, h5⟩ := y
  exact ⟨T, x, y, h1, h2, h3, h4 xs q.1, h5 ys q.2⟩
end
section
variable {K : PySem.W.Frag} {σ : L2.St} {H : Hp} {te : TE} {Q : VK} {xs ys : List V} {es : List PyData} {a b n : Nat} {N : List Addr}
theorem lcZW {J : It} {G : Hp → Prop} (w : Walk J n G (YPair (fun i => xs[i]?) (fun i => ys[i]?))) (hG : ∀ H', Same H H' → G H') (hN : Held N H) (es : List PyData) (hl : es.length = n) (few : n ≤ 900)
    (hw : ∀ x y, wipe (((wipe σ [a, b]).set a (some x)).set b (some y)) [a, b] = wipe σ [a, b])
    (hs : ∀ (i : Nat) (x y : V) (e : PyData) (D : Addr) (H1 : Hp), xs[i]? = some x → ys[i]? = some y → es[i]? = some e → Same H H1 → Held (D :: N) H1 → H D = none → ∀ P : VK, (∀ v H2, Same H1 H2 → Dv K (hide (D :: N) H2) v e → P v H2) → te (((wipe σ [a, b]).set a (some x)).set b (some y)) H1 P)
    (hd : ∀ D zs H1, Same H H1 → H D = none → H1 D = some (.lst zs) → DvAll K (hide N H1) zs es → DvAll K (hide (D :: N) H1) zs es → Q (.ref D) H1) : ∀ D, H D = none → ∃ W : Nat → Nat → Hp → Prop, (∃ m, W 0 m (upd H D (.lst []))) ∧ ∀ i m H, W i m H →
      (J.stop i H ∧ Q (.ref D) H) ∨ (J.go i H ∧ ∃ Nx : Hp → Prop, (∀ H', Nx H' → ∃ m', m' < m ∧ W (i + 1) m' H') ∧ ∀ x H', J.yld i H x H' → gTup K 2 (gCons (gName a) (gCons (gName b) gNil)) x (wipe σ [a, b]) H' fun σ2 H2 => wipe σ2 [a, b] = wipe σ [a, b] ∧ tYes σ2 H2 fun b H3 =>
        if b = true then te σ2 H3 fun y H4 => ∃ acc, H4 D = some (.lst acc) ∧ acc.length < sizeLine ∧ Nx (upd H4 D (.lst (acc ++ [y]))) else Nx H3) := by
  intro D hD
  refine lc_it w (fun i H1 => Same H H1 ∧ ∃ zs, H1 D = some (.lst zs) ∧ DvAll K (hide (D :: N) H1) zs (es.take i)) ⟨same_new hD, [], upd_same, .nil⟩ (fun i H1 _ h => hG H1 h.1) ?_ ?_
  · rintro i x H1 H2 hi ⟨s1, zs, e1, al⟩ ⟨T, y, z, rfl, hT, rfl, e2, e3⟩
    have sN := same_new (u := .tup [y, z]) hT
    refine ⟨T, _, rfl, sqT_at upd_same, rfl, _, _, rfl, _, _, rfl, rfl, hw _ _, ?_⟩
    refine r_yes ?_
    refine r_true (c := true) rfl ?_
    have hie : i < es.length := by omega
    have he := List.getElem?_eq_getElem hie
    refine hs i y z _ D _ e2 e3 he (s1.trans sN) (((hN.same s1).cons e1).same sN) hD _ fun v H3 s3 dy => ⟨_, s3 _ _ (sN _ _ e1), ?_, ?_, _, upd_same, ?_⟩
    · rw [al.len, List.length_take]; exact small_lt (by omega)
    · intro b o e; exact kpO (s3 _ _ (sN _ _ (s1 b o e))) (ne_of_none e hD)
    · rw [hide_upd, take_more he]
      exact DvAll.snoc dy (al.same (hide_same (sN.trans s3)))
  · rintro H1 ⟨s1, zs, e1, al⟩
    rw [List.take_of_length_le (by omega)] at al
    exact hd D zs H1 s1 hD e1 (al.same hide_less) al
variable {ta : TA} {A B : Addr}
theorem lcZT (hit : ∀ P : List V → Hp → Prop, P [.ref A, .ref B] H → ta σ H P) (hA : SqT K H A xs) (hB : SqT K H B ys) (hN : Held N H) (es : List PyData) (hl : es.length = min xs.length ys.length) (few : min xs.length ys.length ≤ 900)
    (hw : ∀ x y, wipe (((wipe σ [a, b]).set a (some x)).set b (some y)) [a, b] = wipe σ [a, b])
    (hs : ∀ (i : Nat) (x y : V) (e : PyData) (D : Addr) (H1 : Hp), xs[i]? = some x → ys[i]? = some y → es[i]? = some e → Same H H1 → Held (D :: N) H1 → H D = none → ∀ P : VK, (∀ v H2, Same H1 H2 → Dv K (hide (D :: N) H2) v e → P v H2) → te (((wipe σ [a, b]).set a (some x)).set b (some y)) H1 P)
    (hd : ∀ D zs H1, Same H H1 → H D = none → H1 D = some (.lst zs) → DvAll K (hide N H1) zs es → DvAll K (hide (D :: N) H1) zs es → Q (.ref D) H1) : tLc (iZipX K ta) (gTup K 2 (gCons (gName a) (gCons (gName b) gNil))) tYes te [a, b] σ H Q :=
  .inl (hit _ ⟨A, B, xs, ys, rfl, .inr ⟨hA, hB, lcZW (walk_zipA rfl) (fun H' s => ⟨Jv.Same.sqT s hA, Jv.Same.sqT s hB⟩) hN es hl few hw hs hd⟩⟩)
theorem lcZL (hit : ∀ P : List V → Hp → Prop, P [.ref A, .ref B] H → ta σ H P) (hA : SqL K H A xs) (hB : SqL K H B ys) (hN : Held N H) (es : List PyData) (hl : es.length = min xs.length ys.length) (few : min xs.length ys.length ≤ 900)
    (hw : ∀ x y, wipe (((wipe σ [a, b]).set a (some x)).set b (some y)) [a, b] = wipe σ [a, b])
    (hs : ∀ (i : Nat) (x y : V) (e : PyData) (D : Addr) (H1 : Hp), xs[i]? = some x → ys[i]? = some y → es[i]? = some e → Same H H1 → Held (D :: N) H1 → H D = none → ∀ P : VK, (∀ v H2, Same H1 H2 → Dv K (hide (D :: N) H2) v e → P v H2) → te (((wipe σ [a, b]).set a (some x)).set b (some y)) H1 P)
    (hd : ∀ D zs H1, Same H H1 → H D = none → H1 D = some (.lst zs) → DvAll K (hide N H1) zs es → DvAll K (hide (D :: N) H1) zs es → Q (.ref D) H1) : tLc (iZipX K ta) (gTup K 2 (gCons (gName a) (gCons (gName b) gNil))) tYes te [a, b] σ H Q :=
  .inl (hit _ ⟨A, B, xs, ys, rfl, .inl ⟨hA, hB, lcZW (walk_zipL rfl) (fun H' s => ⟨s.seq hA, s.seq hB⟩) hN es hl few hw hs hd⟩⟩)
theorem lcZM (hit : ∀ P : List V → Hp → Prop, P [.ref A, .ref B] H → ta σ H P) (hA : SqT K H A xs) (hB : SqL K H B ys) (hN : Held N H) (es : List PyData) (hl : es.length = min xs.length ys.length) (few : min xs.length ys.length ≤ 900)
    (hw : ∀ x y, wipe (((wipe σ [a, b]).set a (some x)).set b (some y)) [a, b] = wipe σ [a, b])
    (hs : ∀ (i : Nat) (x y : V) (e : PyData) (D : Addr) (H1 : Hp), xs[i]? = some x → ys[i]? = some y → es[i]? = some e → Same H H1 → Held (D :: N) H1 → H D = none → ∀ P : VK, (∀ v H2, Same H1 H2 → Dv K (hide (D :: N) H2) v e → P v H2) → te (((wipe σ [a, b]).set a (some x)).set b (some y)) H1 P)
    (hd : ∀ D zs H1, Same H H1 → H D = none → H1 D = some (.lst zs) → DvAll K (hide N H1) zs es → DvAll K (hide (D :: N) H1) zs es → Q (.ref D) H1) : tLc (iZipX K ta) (gTup K 2 (gCons (gName a) (gCons (gName b) gNil))) tYes te [a, b] σ H Q :=
  .inr (hit _ ⟨A, B, xs, ys, rfl, hA, hB, lcZW (walk_zipM rfl) (fun H' s => ⟨Jv.Same.sqT s hA, s.seq hB⟩) hN es hl few hw hs hd⟩)
variable {g : TG} {tb : TS} {D : Ends}
abbrev Wz (g : TG) (tb : TS) (D : Ends) (σ : L2.St) : It → Hp → Prop := fun it H1 => ∃ W : Nat → Nat → L2.St → Hp → Prop, (∃ m, W 0 m σ H1) ∧ ∀ i m σ H, W i m σ H →
      (it.stop i H ∧ D.nx σ H) ∨ (it.go i H ∧ ∃ N : L2.St → Hp → Prop, (∀ σ' H', N σ' H' → ∃ m', m' < m ∧ W (i + 1) m' σ' H') ∧ ∀ x H', it.yld i H x H' → g x σ H' fun σ2 H2 => tb { D with nx := N, ct := N, bk := D.nx } σ2 H2)
theorem forZT (hit : ∀ P : List V → Hp → Prop, P [.ref A, .ref B] H → ta σ H P) (Pv : Nat → L2.St → Hp → Prop) (h0 : Pv 0 σ H) (hn : n = min xs.length ys.length) (hq : ∀ i σ H, Pv i σ H → SqT K H A xs ∧ SqT K H B ys)
    (hs : ∀ (j : Nat) (x y : V) (T : Addr) (σ' : L2.St) (H' : Hp), xs[j]? = some x → ys[j]? = some y → H' T = none → Pv j σ' H' → g (.ref T) σ' (upd H' T (.tup [x, y])) fun σ2 H2 => tb { D with nx := Pv (j + 1), ct := Pv (j + 1), bk := D.nx } σ2 H2) (hd : ∀ σ' H', Pv n σ' H' → D.nx σ' H') :
    iZipX K ta σ H (Wz g tb D σ) :=
  .inl (hit _ ⟨A, B, xs, ys, rfl, .inr ⟨(hq _ _ _ h0).1, (hq _ _ _ h0).2, for_it (walk_zipA hn) Pv h0 (fun j σ' H' _ p => hq j σ' H' p) (fun j v σ1 H1 H2 _ p ⟨T, y, z, e1, hT, e2, e3, e4⟩ => by subst e1 e2; exact hs j y z T σ1 H1 e3 e4 hT p) hd⟩⟩)
theorem forZL (hit : ∀ P : List V → Hp → Prop, P [.ref A, .ref B] H → ta σ H P) (Pv : Nat → L2.St → Hp → Prop) (h0 : Pv 0 σ H) (hn : n = min xs.length ys.length) (hq : ∀ i σ H, Pv i σ H → SqL K H A xs ∧ SqL K H B ys)
    (hs : ∀ (j : Nat) (x y : V) (T : Addr) (σ' : L2.St) (H' : Hp), xs[j]? = some x → ys[j]? = some y → H' T = none → Pv j σ' H' → g (.ref T) σ' (upd H' T (.tup [x, y])) fun σ2 H2 => tb { D with nx := Pv (j + 1), ct := Pv (j + 1), bk := D.nx } σ2 H2) (hd : ∀ σ' H', Pv n σ' H' → D.nx σ' H') :
    iZipX K ta σ H (Wz g tb D σ) :=
  .inl (hit _ ⟨A, B, xs, ys, rfl, .inl ⟨(hq _ _ _ h0).1, (hq _ _ _ h0).2, for_it (walk_zipL hn) Pv h0 (fun j σ' H' _ p => hq j σ' H' p) (fun j v σ1 H1 H2 _ p ⟨T, y, z, e1, hT, e2, e3, e4⟩ => by subst e1 e2; exact hs j y z T σ1 H1 e3 e4 hT p) hd⟩⟩)
theorem forZM (hit : ∀ P : List V → Hp → Prop, P [.ref A, .ref B] H → ta σ H P) (Pv : Nat → L2.St → Hp → Prop) (h0 : Pv 0 σ H) (hn : n = min xs.length ys.length) (hq : ∀ i σ H, Pv i σ H → SqT K H A xs ∧ SqL K H B ys)
    (hs : ∀ (j : Nat) (x y : V) (T : Addr) (σ' : L2.St) (H' : Hp), xs[j]? = some x → ys[j]? = some y → H' T = none → Pv j σ' H' → g (.ref T) σ' (upd H' T (.tup [x, y])) fun σ2 H2 => tb { D with nx := Pv (j + 1), ct := Pv (j + 1), bk := D.nx } σ2 H2) (hd : ∀ σ' H', Pv n σ' H' → D.nx σ' H') :
    iZipX K ta σ H (Wz g tb D σ) :=
  .inr (hit _ ⟨A, B, xs, ys, rfl, (hq _ _ _ h0).1, (hq _ _ _ h0).2, for_it (walk_zipM hn) Pv h0 (fun j σ' H' _ p => hq j σ' H' p) (fun j v σ1 H1 H2 _ p ⟨T, y, z, e1, hT, e2, e3, e4⟩ => by subst e1 e2; exact hs j y z T σ1 H1 e3 e4 hT p) hd⟩)
end
end Jv

/-! ### max(x, key=len) of a list of texts -/
namespace JvK
open PySem PySem.Spec PyProof.Rows
section
variable {prog : Program} {w : World} {A : Around} {E : Value → Shared → Prop} {I S : Addr} {fp wr : List Addr} {G : Array GenState → Array GenState → Prop} {n : Nat} {zs : List Str} {St : Nat → Shared → Prop} {R : Result → Shared → Prop}
abbrev lenV (zs : List Str) : Nat → Int := fun i => ((zs.getD i Str.empty).length : Nat)
abbrev isZ (zs : List Str) : Nat → Value → Prop := fun i v => ∃ z t, zs[i]? = some z ∧ v = .str z t ∧ ¬ ((z.length : Nat) : Int) ≥ 2 ^ 63
theorem len_at {zs : List Str} {i : Nat} {z : Str} (h : zs[i]? = some z) : lenV zs i = (z.length : Nat) := by
  show (((zs.getD i Str.empty).length : Nat) : Int) = _
  rw [List.getD_eq_getElem?_getD, h]; rfl
abbrev isV (val : Nat → Int) : Nat → Value → Prop := fun i v => ∃ t, v = .int (val i) t
abbrev bestO (xs : Array Value) (c : Nat) : Obj := { cls := .type "list", dict := none, data := .seq xs c, slots := #[] }
abbrev maxLp (I S : Addr) : Code := .builtin "max.loop" ⟨[.ref I, .builtin "len", .ref S], []⟩
theorem maxk_go (W : WalksS prog w A.in1 I fp wr G n (isZ zs) St) (out : S ∉ fp) : ∀ (k j m : Nat) (s : Shared) (b kb : Value) (c : Nat), j + k = n → m < j → isZ zs m b → isV (lenV zs) m kb → St j s → s.heap.get? S = some (bestO #[b, kb] c) →
    (∀ m' v z, m' < n → isZ zs m' v → Moved (S :: wr) G s z → R (.ok (.ret v)) z) → codeAny (model prog w) A (maxLp I S) R s := by
  have outW : S ∉ wr := fun h => out (W.sub _ h)
  have wider : ∀ b ∈ wr, b ∈ S :: wr := fun b hb => List.mem_cons_of_mem _ hb
  have apart : ∀ {b : Addr}, b ∉ S :: wr → S ≠ b := fun hb h => hb (h ▸ List.mem_cons_self)
  have nm : (toString "max" ++ toString ".loop" : String) = "max.loop" := by decide
  intro k
  induction k with
  | zero =>
    intro j m s b kb c hj hm hv hk hst hS hR
    obtain rfl : j = n := by omega
    refine codeAny_builtin F.entry_max_loop ?_
    rw [Around.under_plainId F.plain_max_loop _]
    refine wpAny_bind (wpAny_seqItems hS rfl (wpAny_bind (wpAny_tryCatch (W.done s _ _ hst fun s' mv => ?_))))
    have hS' := mv.heap S _ outW hS
    refine wpAny_bind ?_
    refine wpAny_updateSeq hS' rfl (wpAny_bind (wpAny_letGo (wpAny_pure ?_)))
    exact hR m b _ hm hv ((mv.mono wider).then_heap (tk := s'.toks) (Nat.le_refl _) fun x o hx e => (Heap.get?_update_other _ _ (apart hx)).trans e)
  | succ k ih =>
    intro j m s b kb c hj hm hv hk hst hS hR
    refine codeAny_builtin F.entry_max_loop ?_
    rw [Around.under_plainId F.plain_max_loop _]
    refine wpAny_bind (wpAny_seqItems hS rfl (wpAny_bind (wpAny_tryCatch (W.item j s _ _ (by omega) hst fun v s' hP hst' mv => ?_))))
    have hS' := mv.heap S _ outW hS
    obtain ⟨z, t, ez, rfl, hz⟩ := id hP
    refine wpAny_bind (wpAny_tryCatch (wpAny_holding (P.len_str hz ?_)))
    have kv : isV (lenV zs) j (.int (z.length : Nat) (s'.toks + 1)) := ⟨_, by rw [len_at ez]⟩
    refine wpAny_bind (wpAny_tryCatch (wpAny_holding (wpAny_bind (CmpOf.ints_gt (lenV zs) (fun _ _ h => h) j m _ kb _ _ _ kv hk ?_))))
    refine wpAny_bind (wpAny_holding (wpAny_truthy_bool (wpAny_bind (wpAny_letGo (wpAny_pure ?_)))))
    dsimp only
    by_cases c0 : lenV zs j > lenV zs m
    · rw [decide_eq_true c0, if_pos rfl]
      refine wpAny_bind ?_
      refine wpAny_updateSeq hS' rfl (wpAny_bind (wpAny_letGo ?_))
      rw [nm]
      refine wpAny_pure ⟨plainId_quiet F.plain_max_loop _, ih (j + 1) j _ _ _ _ (by omega) (by omega) hP kv (W.frame _ s' _ _ hst' (show s'.toks ≤ s'.toks + 1 + 1 by omega) fun x hx o e => ?_) (Heap.get?_update_self _ hS' rfl) fun m' u y h1 h3 h4 => ?_⟩
      · exact (Heap.get?_update_other _ _ (fun h : S = x => out (h ▸ hx))).trans e
      · exact hR m' u y h1 h3 (Moved.trans W.gtrans ((mv.mono wider).then_heap (show s'.toks ≤ s'.toks + 1 + 1 by omega) fun x o hx e => (Heap.get?_update_other _ _ (apart hx)).trans e) h4)
    · rw [decide_eq_false c0, if_neg Bool.false_ne_true]
      refine wpAny_bind (wpAny_letGo ?_)
      rw [nm]
      refine wpAny_pure ⟨plainId_quiet F.plain_max_loop _, ih (j + 1) m _ b kb c (by omega) (by omega) hv hk (W.frame _ s' _ _ hst' (show s'.toks ≤ s'.toks + 1 + 1 by omega) fun x hx o e => e) hS' fun m' u y h1 h3 h4 => hR m' u y h1 h3 (Moved.trans W.gtrans ((mv.mono wider).then_heap (show s'.toks ≤ s'.toks + 1 + 1 by omega) fun x o hx e => e) h4)⟩
theorem maxk_all (W : WalksS prog w A.in1 I fp wr G n (isZ zs) St) (out : S ∉ fp) {s : Shared} {c : Nat} (hst : St 0 s) (hS : s.heap.get? S = some (bestO #[] c)) (hn : 0 < n)
    (hR : ∀ m v z, m < n → isZ zs m v → Moved (S :: wr) G s z → R (.ok (.ret v)) z) : codeAny (model prog w) A (maxLp I S) R s := by
  have outW : S ∉ wr := fun h => out (W.sub _ h)
  have wider : ∀ b ∈ wr, b ∈ S :: wr := fun b hb => List.mem_cons_of_mem _ hb
  have apart : ∀ {b : Addr}, b ∉ S :: wr → S ≠ b := fun hb h => hb (h ▸ List.mem_cons_self)
  have nm : (toString "max" ++ toString ".loop" : String) = "max.loop" := by decide
  refine codeAny_builtin F.entry_max_loop ?_
  rw [Around.under_plainId F.plain_max_loop _]
  refine wpAny_bind (wpAny_seqItems hS rfl (wpAny_bind (wpAny_tryCatch (W.item 0 s _ _ hn hst fun v s' hP hst' mv => ?_))))
  have hS' := mv.heap S _ outW hS
  obtain ⟨z, t, ez, rfl, hz⟩ := id hP
  refine wpAny_bind (wpAny_tryCatch (wpAny_holding (P.len_str hz ?_)))
  refine wpAny_bind ?_
  refine wpAny_updateSeq hS' rfl ?_
  rw [nm]
  refine wpAny_pure ⟨plainId_quiet F.plain_max_loop _, maxk_go W out (n - 1) 1 0 _ _ _ _ (by omega) (by omega) hP ⟨_, by rw [len_at ez]⟩ (W.frame _ s' _ _ hst' (show s'.toks ≤ s'.toks + 1 + 1 by omega) fun x hx o e => ?_) (Heap.get?_update_self _ hS' rfl) fun m' u y h1 h3 h4 => ?_⟩
  · exact (Heap.get?_update_other _ _ (fun h : S = x => out (h ▸ hx))).trans e
  · exact hR m' u y h1 h3 (Moved.trans W.gtrans ((mv.mono wider).then_heap (show s'.toks ≤ s'.toks + 1 + 1 by omega) fun x o hx e => (Heap.get?_update_other _ _ (apart hx)).trans e) h4)
theorem maxk_call {x : Value} {s : Shared} {Q : Value → Shared → Prop}
    (h : wpAny (model prog w) A.in1 (pyIter x) (fun it z => ∃ I fp wr G n zs St, it = .ref I ∧ WalksS prog w A.in1 I fp wr G n (isZ zs) St ∧ St 0 z ∧ (∀ b ∈ fp, b < z.heap.objs.size) ∧ 0 < n ∧
      ∀ m v y, m < n → isZ zs m v → Moved wr G z y → Q v y) E s) : wpAny (model prog w) A (call (.builtin "max") [x] [(Str.ofString "key", .builtin "len")]) Q E s := by
  have nm : (toString "max" ++ toString ".loop" : String) = "max.loop" := by decide
  refine kmk_tree F.kind_max F.plain_max F.entry_max (kmk_max_key _ _) ?_
  refine wpAny_bind (m := Builtin.Builtins.bindParams "max" ["key", "default"] 0 ⟨[], [(Str.ofString "key", .builtin "len")]⟩) (wpAny_of_eq (a := [some (.builtin "len"), none]) (by first | rfl | kernel_rfl) ?_)
  refine wpAny_bind (wpAny_pure (wpAny_bind (wpAny_mono h (fun it z hz => ?_) fun _ _ e => e)))
  obtain ⟨I, fp, wr, G, n, zs, St, rfl, W, hst, low, h0, hQ⟩ := hz
  refine wpAny_bind (wpAny_newObj_type ?_)
  have out : z.heap.objs.size ∉ fp := fun m => Nat.lt_irrefl _ (low _ m)
  rw [nm]
  refine wpAny_pure ⟨plainId_quiet F.plain_max_loop _, maxk_all (S := z.heap.objs.size) (c := 0) W out (W.frame 0 z _ z.toks hst (Nat.le_refl _) fun b _ o e => Heap.get?_push_of_some _ e) (Heap.get?_push_size _ rfl) h0 fun m v y h1 h3 mv => ?_⟩
  exact hQ m v y h1 h3 (Moved.drop_new (tk := z.toks) mv (Nat.le_refl _))
end
end JvK
namespace Jv
open PySem PySem.Spec PyProof.Rows L2
/-- the longest of some texts: one of them -/
def tMaxKL (K : PySem.W.Frag) (ta : TA) : TE := fun σ H Q => ta σ H fun vs H1 => ∃ a ss, vs = [.ref a] ∧ SqL K H1 a (ss.map V.str) ∧ ss ≠ [] ∧ (∀ z ∈ ss, z.length ≤ sizeLine) ∧ ∀ z ∈ ss, Q (.str z) H1
section
variable {X : Cx} {e : Expr} {te : TE} {p pos p2 kp : Pos}
theorem strs_at {vs : List Value} : ∀ {ss : List Str}, Vals (ss.map V.str) vs → ∀ (i : Nat) v, vs[i]? = some v → ∃ z t, ss[i]? = some z ∧ v = .str z t
  := fun {ss} r i v h => by
    have l := r.length
    rw [List.length_map] at l
    have hi : i < ss.length := by
      have := (List.getElem?_eq_some_iff.mp h).1
      omega
    obtain ⟨u, hu, ru⟩ := r.get (i := i) (x := .str ss[i]) (by simp [hi])
    rw [h] at hu
    cases hu
    obtain ⟨t, rfl⟩ := ru
    exact ⟨_, t, List.getElem?_eq_getElem hi, rfl⟩
theorem max_texts {pins : List (Addr × Obj)} {σ : L2.St} {H : Hp} {s : Shared} {a : Addr} {ss : List Str} {Q : VK} (hc : X.calm = true) (I : Inv X pins σ H s) (h : SqL X.K H a (ss.map V.str)) (ne : ss ≠ []) (few : ∀ z ∈ ss, z.length ≤ sizeLine) (q : ∀ z ∈ ss, Q (.str z) H) :
    wpAny (model X.prog X.w) X.A (call (.builtin "max") [.ref a] [(Str.ofString "key", .builtin "len")]) (EP X pins σ Q) X.xe s := by
  obtain ⟨its, rv, hl, hz⟩ := I.list h
  have hh := I.ok.hd hc
  have hl2 := hl.isList
  obtain ⟨o, ho, _⟩ := id hl2
  have hne : a ≠ s.heap.objs.size := Nat.ne_of_lt (Heap.lt_size ho)
  have l := rv.length
  rw [List.length_map] at l
  have h63 := line63
  refine JvK.maxk_call ?_
  refine wpAny_pyIter_list hl2 ?_
  have W := (Walks.list (prog := X.prog) (w := X.w) (A := X.A.in1) hh s.heap.objs.size a hne its.toArray).toS
  have sz : its.toArray.size = ss.length := by rw [List.size_toArray]; omega
  rw [sz] at W
  have key : ∀ {I0 : Addr} {fp wr : List Addr} {G : Array GenState → Array GenState → Prop} {St : Nat → Shared → Prop}, WalksS X.prog X.w X.A.in1 I0 fp wr G ss.length (fun i v => its.toArray[i]? = some v) St → WalksS X.prog X.w X.A.in1 I0 fp wr G ss.length (JvK.isZ ss) St := fun W =>
    ⟨W.sub, W.grefl, W.gtrans, W.frame, fun i s Q E hi0 st hQ => W.item i s Q E hi0 st fun v s' hv => hQ v s' (by
      obtain ⟨z, t, hz, rfl⟩ := strs_at rv i v (by rw [← hv]; simp)
      refine ⟨z, t, hz, rfl, ?_⟩
      have := few z (List.mem_of_getElem? hz)
      omega), W.done, W.self⟩
  refine ⟨_, _, _, _, ss.length, ss, _, rfl, key W, ⟨⟨_, Heap.get?_push_size _ rfl, rfl, rfl⟩, hl2.at fun o e => Heap.get?_push_of_some _ e⟩, fun b hb => ?_, List.length_pos_iff.mpr ne, fun m v y hm hv mv => ?_⟩
  · rcases List.mem_cons.mp hb with rfl | hb
    · exact Heap.lt_size (Heap.get?_push_size _ rfl)
    · rw [List.mem_singleton.mp hb]
      exact Heap.lt_size (Heap.get?_push_of_some _ ho)
  · obtain ⟨h', g', d', tk', os'⟩ := y
    have e1 : g' = s.gens := mv.gens
    have e2 : d' = s.drawn := mv.drawn
    have e3 : os' = s.os := mv.os
    subst e1 e2 e3
    obtain ⟨z, t, hz, rfl, _⟩ := hv
    exact ⟨.str z, H, I.kept (t' := tk') fun b o e => mv.heap b o (fun hb => absurd (Heap.lt_size e) ((List.mem_singleton.mp hb) ▸ Nat.lt_irrefl _)) (Heap.get?_push_of_some _ e), ⟨t, rfl⟩, q z (List.mem_of_getElem? hz)⟩
/-- max(x, key=len) -/
theorem pe_maxKL {ta : TA} (ha : PA X [e] ta) (hc : X.calm = true) (hg : Gl X "max") (hm : X.mg "max" = none) (hg2 : Gl X "len") (hm2 : X.mg "len" = none) (hv : bootBuiltins "max" = some (.builtin "max")) (hv2 : bootBuiltins "len" = some (.builtin "len"))
    (hs : backTo pos (starEach [e] X.env) = (false, eval e X.env) :: backTo pos (starEach [] X.env) := by rfl) (hpl : (backTo pos (starEach [e] X.env)).any (·.1) = false := by rfl)
    (hall : (backToKw pos (keywordEach [⟨some "key", .Name "len" p2, kp⟩] X.env)).all (·.1.isSome) = true := by rfl) (hnone : (backToKw pos (keywordEach [⟨some "key", .Name "len" p2, kp⟩] X.env)).any (·.1.isNone) = false := by rfl)
    (hks : (backToKw pos (keywordEach [⟨some "key", .Name "len" p2, kp⟩] X.env)).filterMap (·.1) = [Str.ofString "key"] := by rfl) :
    PE X (.Call (.Name "max" p) [e] [⟨some "key", .Name "len" p2, kp⟩] pos) (tMaxKL X.K ta) := by
  refine ⟨fun pins s σ H Q I h => ?_⟩
  refine wpAny_Call_Name_kw (ld_blt I hg hm hv ?_ (by decide) (by decide))
  refine PyProof.Rows.callWith_kw (thn (ha.run pos pins s σ H _ I h) fun us s1 ⟨vs, H1, I1, r1, a, ss, ev, h1, h2, h3, h4⟩ => ?_) hs hpl hall hnone
  subst ev
  rw [hks]
  show wpAny _ _ (evalAll ((do let v ← eval (.Name "len" p2) X.env; standAt pos; pure v) :: (backToKw pos (keywordEach [] X.env)).map (·.2))) _ _ s1
  refine wpAny_evalAll_cons (wpAny_bind (ld_blt I1 hg2 hm2 hv2 (wpAny_bind (wpAny_standAt (wpAny_pure (wpAny_evalAll_nil ?_)))) (by decide) (by decide)))
  rw [Vals.ref1 r1]
  exact max_texts hc I1 h1 h2 h3 h4
end
end Jv

/-! ### the walk through a reading -/
local macro_rules | `(tactic| walk_at "r1") => `(tactic| first
  | with_reducible refine Jv.r_seq ?_
  | with_reducible refine Jv.r_asg ?_
  | with_reducible refine Jv.r_gn ?_
  | with_reducible refine Jv.r_ret ?_
  | with_reducible refine Jv.r_retN ?_
  | with_reducible refine Jv.r_drop ?_
  | with_reducible refine Jv.r_if ?_
  | with_reducible refine Jv.r_next ?_
  | with_reducible refine Jv.r_brk ?_
  | with_reducible refine Jv.r_cont ?_
  | ((with_reducible refine' Jv.r_var ?hv ?_); (case hv => rfl))
  | with_reducible refine Jv.r_c ?_
  | with_reducible refine Jv.r_op ?_
  | with_reducible refine Jv.r_un ?_
  | with_reducible refine Jv.r_I0 ?_
  | with_reducible refine Jv.r_U ?_
  | ((with_reducible refine Jv.r_eq ?hs ?_); (case hs => rfl))
  | ((with_reducible refine Jv.r_ne ?hs ?_); (case hs => rfl))
  | with_reducible refine Jv.r_test ?_
  | with_reducible refine Jv.r_B ?_
  | with_reducible refine Jv.r_bl ?_
  | with_reducible refine Jv.r_and ?_
  | with_reducible refine Jv.r_or ?_
  | with_reducible refine Jv.r_not ?_
  | with_reducible refine Jv.r_andV ?_
  | with_reducible refine Jv.r_orV ?_
  | with_reducible refine Jv.r_notV ?_
  | with_reducible refine Jv.r_ife ?_
  | with_reducible refine Jv.r_chain ?_
  | with_reducible refine Jv.r_nil ?_
  | with_reducible refine Jv.r_cons ?_
  | with_reducible refine Jv.r_tup ?_
  | with_reducible refine Jv.r_lst ?_
  | with_reducible refine Jv.r_CB ?_
  | with_reducible refine Jv.r_call ?_
  | with_reducible refine Jv.r_callS ?_
  | with_reducible refine Jv.r_for ?_
  | with_reducible refine Jv.r_iR1 ?_
  | with_reducible refine Jv.r_iR2 ?_
  | with_reducible refine Jv.r_sub ?_
  | with_reducible refine Jv.r_int ?_)
local macro_rules | `(tactic| walk_at "r") => `(tactic| (repeat walk_at "r1"))

local macro_rules | `(tactic| walk_at "cond") => `(tactic| first
  | exact Or.inr ⟨by decide, by decide⟩
  | exact Or.inl ⟨by decide, by decide⟩
  | exact ⟨by decide, by decide⟩
  | exact ⟨by assumption, by assumption⟩
  | exact ⟨by decide, by decide, by decide⟩
  | (show (0 : Int) < _; first | decide | omega)
  | exact Jv.cdivS (by omega) (by omega)
  | exact Or.inr ⟨by omega, by omega⟩
  | exact Or.inl ⟨by omega, by omega⟩)
local macro_rules | `(tactic| walk_at "r1") => `(tactic| ((with_reducible refine Jv.r_I ?hc ?_); (case hc => walk_at "cond")))

local macro_rules | `(tactic| walk_at "ne") => `(tactic| first
  | assumption
  | exact Ne.symm (by assumption)
  | exact L2.ne_of_none (by walk_at "hp") (by assumption)
  | exact Ne.symm (L2.ne_of_none (by walk_at "hp") (by assumption)))
local macro_rules | `(tactic| walk_at "hp") => `(tactic| first
  | assumption
  | exact L2.upd_same
  | ((refine' Jv.kp ?hp1 ?hp2); (case hp2 => assumption); (case hp1 => walk_at "hp"))
  | ((refine' Jv.kpO ?hp1 ?hp2); (case hp1 => walk_at "hp"); (case hp2 => walk_at "ne")))
local macro_rules | `(tactic| walk_at "sq") => `(tactic| first
  | assumption
  | ((refine' Jv.sqT_at ?sq1); (case sq1 => walk_at "hp"))
  | ((refine' Jv.sqL_at ?sq1); (case sq1 => walk_at "hp"))
  | ((refine' Jv.sqT_new ?sq1 ?sq2); (case sq2 => assumption); (case sq1 => walk_at "sq"))
  | ((refine' Jv.sqL_new ?sq1 ?sq2); (case sq2 => assumption); (case sq1 => walk_at "sq"))
  | ((refine' L2.Same.seq ?sq1 ?sq2); (case sq1 => assumption); (case sq2 => assumption))
  | ((refine' Jv.Same.sqT ?sq1 ?sq2); (case sq1 => assumption); (case sq2 => assumption)))
local macro_rules | `(tactic| walk_at "r1") => `(tactic| first
  | ((with_reducible refine' Jv.r_gtup ?hq ?hl ?_); (case hq => walk_at "sq"); (case hl => rfl))
  | with_reducible refine Jv.r_gcons ?_
  | with_reducible refine Jv.r_gnil ?_
  | with_reducible refine Jv.r_iEn ?_
  | with_reducible refine Jv.r_iL ?_
  | with_reducible refine Jv.r_iT ?_
  | with_reducible refine Jv.r_yes ?_
  | with_reducible refine Jv.r_ift ?_
  | with_reducible refine Jv.r_iff ?_
  | ((with_reducible refine' Jv.r_new ?hn ?_); (case hn => exact Nat.le_of_ble_eq_true rfl))
  | ((with_reducible refine' Jv.r_wipe ?he ?_); (case he => rfl)))
local macro_rules | `(tactic| walk_at "len") => `(tactic| first
  | exact Or.inl (by walk_at "sq")
  | exact Or.inr (by walk_at "sq"))
local macro_rules | `(tactic| walk_at "r1") => `(tactic| first
  | ((with_reducible refine' Jv.r_ixL ?hs ?he ?_); (case hs => walk_at "sq"); (case he => rfl))
  | ((with_reducible refine' Jv.r_ixT ?hs ?he ?_); (case hs => walk_at "sq"); (case he => rfl))
  | ((with_reducible refine' Jv.r_setL ?hs ?he ?_); (case hs => walk_at "hp"); (case he => rfl))
  | ((with_reducible refine' Jv.r_len ?hs ?_); (case hs => walk_at "len")))
local macro_rules | `(tactic| walk_at "th") => `(tactic| first
  | assumption
  | exact Jv.Th.same (by assumption) (by assumption)
  | exact Jv.Th.same (by assumption) (Jv.same_new (by assumption))
  | exact trivial)
local macro_rules | `(tactic| walk_at "r1") => `(tactic| first
  | ((with_reducible refine' Jv.r_isB ?hx ?_); (case hx => walk_at "th"))
  | ((with_reducible refine' Jv.r_isI ?hx ?_); (case hx => walk_at "th"))
  | ((with_reducible refine' Jv.r_isS ?hp ?hx ?_); (case hp => walk_at "hp"); (case hx => walk_at "th"))
  | ((with_reducible refine' Jv.r_false ?he ?_); (case he => rfl))
  | ((with_reducible refine' Jv.r_true ?he ?_); (case he => rfl))
  | with_reducible refine Jv.r_rfl ?_)
local macro_rules | `(tactic| walk_at "r2") => `(tactic| first
  | walk_at "r1"
  | ((with_reducible refine' Jv.r_dec1 ?hd ?_); (case hd => omega))
  | ((with_reducible refine' Jv.r_dec0 ?hd ?_); (case hd => omega))
  | with_reducible refine Jv.r_decI (fun _ => ?_) (fun _ => ?_)
  | with_reducible refine Jv.r_ndecI (fun _ => ?_) (fun _ => ?_)
  | with_reducible refine Jv.r_dec (fun _ => ?_) (fun _ => ?_)
  | with_reducible refine Jv.r_ndec (fun _ => ?_) (fun _ => ?_))
local macro_rules | `(tactic| walk_at "rr") => `(tactic| (repeat' walk_at "r2"))
local macro_rules | `(tactic| walk_at "r1") => `(tactic| first
  | with_reducible refine Jv.r_min ?_
  | with_reducible refine Jv.r_max ?_
  | with_reducible refine Jv.r_absN ?_
  | with_reducible refine Jv.r_intN ?_)
local macro_rules | `(tactic| walk_at "r1") => `(tactic| first
  | with_reducible refine Jv.r_bm ?_
  | ((with_reducible refine' Jv.r_tyL ?hp ?_); (case hp => walk_at "hp")))

local macro_rules | `(tactic| walk_at "r1") => `(tactic| first
  | with_reducible refine Jv.r_callN ?_
  | with_reducible refine Jv.r_disp1 ?_
  | with_reducible refine Jv.r_same ?_)

local macro_rules | `(tactic| walk_at "dv") => `(tactic| first
  | assumption
  | exact Jv.Dv.same (by assumption) (by assumption)
  | exact Jv.Dv.same (Jv.same_new (by assumption)) (by assumption)
  | exact Jv.Dv.int _
  | exact Jv.Dv.non
  | exact Jv.Dv.bl _)
local macro_rules | `(tactic| walk_at "r1") => `(tactic| first
  | ((with_reducible refine' Jv.d_isB ?hx ?_); (case hx => walk_at "dv"))
  | ((with_reducible refine' Jv.d_isI ?hx ?_); (case hx => walk_at "dv"))
  | ((with_reducible refine' Jv.d_isS ?hp ?hx ?_); (case hp => walk_at "hp"); (case hx => walk_at "dv")))

namespace K17
open PySem PySem.Spec PyProof.Rows L2
def topS (i : Nat) : Stmt := PySem.Challenge.pw_risingcalls_k17_whole_rules_made_and_rai.main.body.getD i (.Pass ⟨0, 0, 0, 0⟩)
abbrev s_BadRuleu_initu : Stmt := inClass (topS 2) 0
abbrev s_is_whole : Stmt := topS 8
abbrev s_is_sequence : Stmt := topS 9
abbrev s_is_name : Stmt := topS 13
abbrev s_is_test : Stmt := topS 17
abbrev s_are_tests : Stmt := topS 18
abbrev s_is_condition : Stmt := topS 19
abbrev s_words_fault : Stmt := topS 20
abbrev s_bounds_fault : Stmt := topS 21
abbrev s_raised_number : Stmt := topS 22
abbrev s_Ruleu_initu : Stmt := inClass (topS 23) 0
abbrev s_Ruleu_equ : Stmt := inClass (topS 23) 1
abbrev s_Rule_raised : Stmt := inClass (topS 23) 2
abbrev s_Lmix : Stmt := topS 25
abbrev s_Lhand : Stmt := topS 26
abbrev s_Ldraw : Stmt := topS 27
abbrev s_Lwhole : Stmt := topS 28
abbrev s_Lpick : Stmt := topS 29
abbrev s_Lshape : Stmt := topS 30
abbrev s_Ldeep : Stmt := topS 31
abbrev s_Lsame : Stmt := topS 32
abbrev s_Lnames : Stmt := topS 33
abbrev s_Ltests : Stmt := topS 34
abbrev s_Lasked : Stmt := topS 35
abbrev s_Lrule : Stmt := topS 36
abbrev s_Lmade : Stmt := topS 37
abbrev s_Lis_rule : Stmt := topS 38
abbrev s_Lup : Stmt := topS 39
abbrev s_Lraised : Stmt := topS 40
abbrev s_Lodd : Stmt := topS 41
abbrev s_Ltries : Stmt := topS 42
abbrev s_Llabels : Stmt := topS 43
abbrev s_Lrefused : Stmt := topS 44
abbrev s_Lother : Stmt := topS 45
abbrev s_Lequal : Stmt := topS 46
abbrev s_Lleft_out : Stmt := topS 47
abbrev s_Lraise : Stmt := topS 48
abbrev s_Lraises : Stmt := topS 49
abbrev s_law : Stmt := topS 50
theorem sc_BadRuleu_initu : FnScope ["self", "what"] ["self", "what"] (defScope s_BadRuleu_initu) := ⟨rfl, rfl, rfl, by decide +kernel, rfl, by decide +kernel, by decide +kernel⟩
theorem sc_is_whole : FnScope ["thing", "low", "high"] ["thing", "low", "high"] (defScope s_is_whole) := ⟨rfl, rfl, rfl, by decide +kernel, rfl, by decide +kernel, by decide +kernel⟩
theorem sc_is_sequence : FnScope ["thing"] ["thing"] (defScope s_is_sequence) := ⟨rfl, rfl, rfl, by decide +kernel, rfl, by decide +kernel, by decide +kernel⟩
theorem sc_is_name : FnScope ["thing", "sign"] ["thing"] (defScope s_is_name) := ⟨rfl, rfl, rfl, by decide +kernel, rfl, by decide +kernel, by decide +kernel⟩
theorem sc_is_test : FnScope ["thing", "mark", "least", "most"] ["thing"] (defScope s_is_test) := ⟨rfl, rfl, rfl, by decide +kernel, rfl, by decide +kernel, by decide +kernel⟩
theorem sc_are_tests : FnScope ["thing", "part"] ["thing"] (defScope s_are_tests) := ⟨rfl, rfl, rfl, by decide +kernel, rfl, by decide +kernel, by decide +kernel⟩
theorem sc_is_condition : FnScope ["thing"] ["thing"] (defScope s_is_condition) := ⟨rfl, rfl, rfl, by decide +kernel, rfl, by decide +kernel, by decide +kernel⟩
theorem sc_words_fault : FnScope ["word", "tests", "own", "other", "foe", "label", "condition"] ["word", "tests", "own", "other", "foe"] (defScope s_words_fault) := ⟨rfl, rfl, rfl, by decide +kernel, rfl, by decide +kernel, by decide +kernel⟩
theorem sc_bounds_fault : FnScope ["low", "high", "side"] ["low", "high", "side"] (defScope s_bounds_fault) := ⟨rfl, rfl, rfl, by decide +kernel, rfl, by decide +kernel, by decide +kernel⟩
theorem sc_raised_number : FnScope ["thing", "by"] ["thing", "by"] (defScope s_raised_number) := ⟨rfl, rfl, rfl, by decide +kernel, rfl, by decide +kernel, by decide +kernel⟩
theorem sc_Ruleu_initu : FnScope ["self", "word", "tests", "own", "other", "foe", "low", "high", "side", "what", "test"] ["self", "word", "tests", "own", "other", "foe", "low", "high", "side"] (defScope s_Ruleu_initu) := ⟨rfl, rfl, rfl, by decide +kernel, rfl, by decide +kernel, by decide +kernel⟩
theorem sc_Ruleu_equ : FnScope ["self", "other"] ["self", "other"] (defScope s_Ruleu_equ) := ⟨rfl, rfl, rfl, by decide +kernel, rfl, by decide +kernel, by decide +kernel⟩
theorem sc_Rule_raised : FnScope ["self", "by", "numbers", "word", "own", "other", "foe", "low", "high", "part", "number"] ["self", "by"] (defScope s_Rule_raised) := ⟨rfl, rfl, rfl, by decide +kernel, rfl, by decide +kernel, by decide +kernel⟩
theorem sc_Lmix : FnScope ["_law_number", "_law_turn", "_law_once", "_law_twice"] ["_law_number", "_law_turn"] (defScope s_Lmix) := ⟨rfl, rfl, rfl, by decide +kernel, rfl, by decide +kernel, by decide +kernel⟩
theorem sc_Lhand : FnScope ["_law_script", "_law_total", "_law_k", "_law_cell"] ["_law_script"] (defScope s_Lhand) := ⟨rfl, rfl, rfl, by decide +kernel, rfl, by decide +kernel, by decide +kernel⟩
theorem sc_Ldraw : FnScope ["_law_hand_here", "_law_many", "_law_cell", "_law_rest"] ["_law_hand_here", "_law_many"] (defScope s_Ldraw) := ⟨rfl, rfl, rfl, by decide +kernel, rfl, by decide +kernel, by decide +kernel⟩
theorem sc_Lwhole : FnScope ["_law_thing"] ["_law_thing"] (defScope s_Lwhole) := ⟨rfl, rfl, rfl, by decide +kernel, rfl, by decide +kernel, by decide +kernel⟩
theorem sc_Lpick : FnScope ["_law_hand_here", "_law_things"] ["_law_hand_here", "_law_things"] (defScope s_Lpick) := ⟨rfl, rfl, rfl, by decide +kernel, rfl, by decide +kernel, by decide +kernel⟩
theorem sc_Lshape : FnScope ["_law_hand_here", "_law_row"] ["_law_hand_here", "_law_row"] (defScope s_Lshape) := ⟨rfl, rfl, rfl, by decide +kernel, rfl, by decide +kernel, by decide +kernel⟩
theorem sc_Ldeep : FnScope ["_law_hand_here", "_law_rows", "_law_row"] ["_law_hand_here", "_law_rows"] (defScope s_Ldeep) := ⟨rfl, rfl, rfl, by decide +kernel, rfl, by decide +kernel, by decide +kernel⟩
theorem sc_Lsame : FnScope ["_law_answer", "_law_due", "_law_one", "_law_other_here"] ["_law_answer", "_law_due"] (defScope s_Lsame) := ⟨rfl, rfl, rfl, by decide +kernel, rfl, by decide +kernel, by decide +kernel⟩
theorem sc_Lnames : FnScope ["_law_hand_here", "_law_letters", "_law_name", "_law_turn", "_law_names_here"] ["_law_hand_here"] (defScope s_Lnames) := ⟨rfl, rfl, rfl, by decide +kernel, rfl, by decide +kernel, by decide +kernel⟩
theorem sc_Ltests : FnScope ["_law_hand_here", "_law_names_here", "_law_tests_here", "_law_turn", "_law_name", "_law_least", "_law_most"] ["_law_hand_here", "_law_names_here"] (defScope s_Ltests) := ⟨rfl, rfl, rfl, by decide +kernel, rfl, by decide +kernel, by decide +kernel⟩
theorem sc_Lasked : FnScope ["_law_hand_here", "_law_ladder", "_law_way"] ["_law_hand_here", "_law_ladder"] (defScope s_Lasked) := ⟨rfl, rfl, rfl, by decide +kernel, rfl, by decide +kernel, by decide +kernel⟩
theorem sc_Lrule : FnScope ["_law_hand_here", "_law_names_here", "_law_ladder", "_law_guarded", "_law_word", "_law_low", "_law_high", "_law_asked_here", "_law_side", "_law_place"] ["_law_hand_here", "_law_names_here", "_law_ladder", "_law_guarded"] (defScope s_Lrule) := ⟨rfl, rfl, rfl, by decide +kernel, rfl, by decide +kernel, by decide +kernel⟩
theorem sc_Lmade : FnScope ["_law_hand_here", "_law_rule_here", "_law_tests_here"] ["_law_hand_here", "_law_rule_here"] (defScope s_Lmade) := ⟨rfl, rfl, rfl, by decide +kernel, rfl, by decide +kernel, by decide +kernel⟩
theorem sc_Lis_rule : FnScope ["_law_told", "_law_rule_here", "_law_told_all"] ["_law_told", "_law_rule_here"] (defScope s_Lis_rule) := ⟨rfl, rfl, rfl, by decide +kernel, rfl, by decide +kernel, by decide +kernel⟩
theorem sc_Lup : FnScope ["_law_word", "_law_by"] ["_law_word", "_law_by"] (defScope s_Lup) := ⟨rfl, rfl, rfl, by decide +kernel, rfl, by decide +kernel, by decide +kernel⟩
theorem sc_Lraised : FnScope ["_law_rule_here", "_law_by", "_law_word", "_law_tests_here", "_law_own", "_law_other_here", "_law_foe", "_law_low", "_law_high", "_law_side", "_law_raised_here", "_law_top", "_law_asked_here"] ["_law_rule_here", "_law_by"] (defScope s_Lraised) := ⟨rfl, rfl, rfl, by decide +kernel, rfl, by decide +kernel, by decide +kernel⟩
theorem sc_Lodd : FnScope ["_law_place", "_law_rule_here", "_law_name", "_law_wrong", "_law_one"] ["_law_place", "_law_rule_here"] (defScope s_Lodd) := ⟨rfl, rfl, rfl, by decide +kernel, rfl, by decide +kernel, by decide +kernel⟩
theorem sc_Ltries : FnScope ["_law_things", "e"] ["_law_things"] (defScope s_Ltries) := ⟨rfl, rfl, rfl, by decide +kernel, rfl, by decide +kernel, by decide +kernel⟩
theorem sc_Llabels : FnScope [] [] (defScope s_Llabels) := ⟨rfl, rfl, rfl, by decide +kernel, rfl, by decide +kernel, by decide +kernel⟩
theorem sc_Lrefused : FnScope ["_law_hand_here", "_law_rule_here", "_law_turn", "_law_one", "_law_two", "_law_things", "_law_place"] ["_law_hand_here", "_law_rule_here"] (defScope s_Lrefused) := ⟨rfl, rfl, rfl, by decide +kernel, rfl, by decide +kernel, by decide +kernel⟩
theorem sc_Lother : FnScope ["_law_rule_here", "_law_place", "_law_name", "_law_word", "_law_tests_here", "_law_own", "_law_other_here", "_law_foe", "_law_low", "_law_high", "_law_side"] ["_law_rule_here", "_law_place", "_law_name"] (defScope s_Lother) := ⟨rfl, rfl, rfl, by decide +kernel, rfl, by decide +kernel, by decide +kernel⟩
theorem sc_Lequal : FnScope ["_law_hand_here", "_law_rule_here", "_law_name", "_law_one", "_law_twin", "_law_place", "_law_things", "_law_changed", "_law_other_here"] ["_law_hand_here", "_law_rule_here", "_law_name"] (defScope s_Lequal) := ⟨rfl, rfl, rfl, by decide +kernel, rfl, by decide +kernel, by decide +kernel⟩
theorem sc_Lleft_out : FnScope ["_law_rule_here", "_law_usual", "_law_named"] ["_law_rule_here"] (defScope s_Lleft_out) := ⟨rfl, rfl, rfl, by decide +kernel, rfl, by decide +kernel, by decide +kernel⟩
theorem sc_Lraise : FnScope ["_law_made_here", "_law_by", "e"] ["_law_made_here", "_law_by"] (defScope s_Lraise) := ⟨rfl, rfl, rfl, by decide +kernel, rfl, by decide +kernel, by decide +kernel⟩
theorem sc_Lraises : FnScope ["_law_hand_here", "_law_rule_here", "_law_made_here", "_law_first", "_law_turn", "_law_by", "_law_due", "_law_told"] ["_law_hand_here", "_law_rule_here"] (defScope s_Lraises) := ⟨rfl, rfl, rfl, by decide +kernel, rfl, by decide +kernel, by decide +kernel⟩
theorem sc_law : FnScope ["_law_script", "_law_hand_here", "_law_names_here", "_law_ladder", "_law_rules", "_law_rule_here", "_law_made_here", "_law_at", "_law_one", "_law_place", "_law_other_here", "_law_turn"] ["_law_script"] (defScope s_law) := ⟨rfl, rfl, rfl, by decide +kernel, rfl, by decide +kernel, by decide +kernel⟩
structure Tx where
  f_BadRuleu_initu : Addr
  d_BadRuleu_initu : FuncData
  f_is_whole : Addr
  d_is_whole : FuncData
  f_is_sequence : Addr
  d_is_sequence : FuncData
  f_is_name : Addr
  d_is_name : FuncData
  f_is_test : Addr
  d_is_test : FuncData
  f_are_tests : Addr
  d_are_tests : FuncData
  f_is_condition : Addr
  d_is_condition : FuncData
  f_words_fault : Addr
  d_words_fault : FuncData
  f_bounds_fault : Addr
  d_bounds_fault : FuncData
  f_raised_number : Addr
  d_raised_number : FuncData
  f_Ruleu_initu : Addr
  d_Ruleu_initu : FuncData
  f_Ruleu_equ : Addr
  d_Ruleu_equ : FuncData
  f_Rule_raised : Addr
  d_Rule_raised : FuncData
  f_Lmix : Addr
  d_Lmix : FuncData
  f_Lhand : Addr
  d_Lhand : FuncData
  f_Ldraw : Addr
  d_Ldraw : FuncData
  f_Lwhole : Addr
  d_Lwhole : FuncData
  f_Lpick : Addr
  d_Lpick : FuncData
  f_Lshape : Addr
  d_Lshape : FuncData
  f_Ldeep : Addr
  d_Ldeep : FuncData
  f_Lsame : Addr
  d_Lsame : FuncData
  f_Lnames : Addr
  d_Lnames : FuncData
  f_Ltests : Addr
  d_Ltests : FuncData
  f_Lasked : Addr
  d_Lasked : FuncData
  f_Lrule : Addr
  d_Lrule : FuncData
  f_Lmade : Addr
  d_Lmade : FuncData
  f_Lis_rule : Addr
  d_Lis_rule : FuncData
  f_Lup : Addr
  d_Lup : FuncData
  f_Lraised : Addr
  d_Lraised : FuncData
  f_Lodd : Addr
  d_Lodd : FuncData
  f_Ltries : Addr
  d_Ltries : FuncData
  f_Llabels : Addr
  d_Llabels : FuncData
  f_Lrefused : Addr
  d_Lrefused : FuncData
  f_Lother : Addr
  d_Lother : FuncData
  f_Lequal : Addr
  d_Lequal : FuncData
  f_Lleft_out : Addr
  d_Lleft_out : FuncData
  f_Lraise : Addr
  d_Lraise : FuncData
  f_Lraises : Addr
  d_Lraises : FuncData
  f_law : Addr
  d_law : FuncData
  C_CallError : Addr
  C_BadRule : Addr
  C_BadRaise : Addr
  C_Rule : Addr
  t_EAST : Tok
  t_WEST : Tok
  t_LADDER_MOST : Tok
  t_LETTERS_MOST : Tok
  t_NUMBER_MOST : Tok
  t_NONE : Tok
  t_TESTS_MOST : Tok
  e1_is_whole : List Value
  e2_is_whole : List Value
  e1_Ruleu_initu : List Value
  e2_Ruleu_initu : List Value
  e3_Ruleu_initu : List Value
  e4_Ruleu_initu : List Value
  e5_Ruleu_initu : List Value
  e6_Ruleu_initu : List Value
  e7_Ruleu_initu : List Value
  w0_Ruleu_initu : Addr
structure Ok (K : PySem.W.Frag) (mg : Str → Option Value) (T : Tx) : Prop where
  F_BadRuleu_initu : Fun K "__init__" "BadRule.__init__" s_BadRuleu_initu T.f_BadRuleu_initu T.d_BadRuleu_initu
  b_BadRuleu_initu : Binds K T.d_BadRuleu_initu ["self", "what"] []
  F_is_whole : FunD K "is_whole" "is_whole" (defArgs s_is_whole) (defBody s_is_whole) (defScope s_is_whole) [.non, .non] [] T.f_is_whole T.d_is_whole
  m_is_whole : mg "is_whole" = some (.ref T.f_is_whole)
  b_is_whole : Binds K T.d_is_whole ["thing", "low", "high"] []
  b1_is_whole : Vals [.non] T.e1_is_whole ∧ Binds K T.d_is_whole ["thing", "low", "high"] T.e1_is_whole
  b2_is_whole : Vals [.non, .non] T.e2_is_whole ∧ Binds K T.d_is_whole ["thing", "low", "high"] T.e2_is_whole
  F_is_sequence : Fun K "is_sequence" "is_sequence" s_is_sequence T.f_is_sequence T.d_is_sequence
  m_is_sequence : mg "is_sequence" = some (.ref T.f_is_sequence)
  b_is_sequence : Binds K T.d_is_sequence ["thing"] []
  F_is_name : Fun K "is_name" "is_name" s_is_name T.f_is_name T.d_is_name
  m_is_name : mg "is_name" = some (.ref T.f_is_name)
  b_is_name : Binds K T.d_is_name ["thing"] []
  F_is_test : Fun K "is_test" "is_test" s_is_test T.f_is_test T.d_is_test
  m_is_test : mg "is_test" = some (.ref T.f_is_test)
  b_is_test : Binds K T.d_is_test ["thing"] []
  F_are_tests : Fun K "are_tests" "are_tests" s_are_tests T.f_are_tests T.d_are_tests
  m_are_tests : mg "are_tests" = some (.ref T.f_are_tests)
  b_are_tests : Binds K T.d_are_tests ["thing"] []
  F_is_condition : Fun K "is_condition" "is_condition" s_is_condition T.f_is_condition T.d_is_condition
  m_is_condition : mg "is_condition" = some (.ref T.f_is_condition)
  b_is_condition : Binds K T.d_is_condition ["thing"] []
  F_words_fault : Fun K "words_fault" "words_fault" s_words_fault T.f_words_fault T.d_words_fault
  m_words_fault : mg "words_fault" = some (.ref T.f_words_fault)
  b_words_fault : Binds K T.d_words_fault ["word", "tests", "own", "other", "foe"] []
  F_bounds_fault : Fun K "bounds_fault" "bounds_fault" s_bounds_fault T.f_bounds_fault T.d_bounds_fault
  m_bounds_fault : mg "bounds_fault" = some (.ref T.f_bounds_fault)
  b_bounds_fault : Binds K T.d_bounds_fault ["low", "high", "side"] []
  F_raised_number : Fun K "raised_number" "raised_number" s_raised_number T.f_raised_number T.d_raised_number
  m_raised_number : mg "raised_number" = some (.ref T.f_raised_number)
  b_raised_number : Binds K T.d_raised_number ["thing", "by"] []
  F_Ruleu_initu : FunD K "__init__" "Rule.__init__" (defArgs s_Ruleu_initu) (defBody s_Ruleu_initu) (defScope s_Ruleu_initu) [(.ref T.w0_Ruleu_initu), .non, .non, .non, (.int 0), .non, .non] [] T.f_Ruleu_initu T.d_Ruleu_initu
  y0_Ruleu_initu : ∀ H : Hp, SqT K H T.w0_Ruleu_initu []
  b_Ruleu_initu : Binds K T.d_Ruleu_initu ["self", "word", "tests", "own", "other", "foe", "low", "high", "side"] []
  b1_Ruleu_initu : Vals [.non] T.e1_Ruleu_initu ∧ Binds K T.d_Ruleu_initu ["self", "word", "tests", "own", "other", "foe", "low", "high", "side"] T.e1_Ruleu_initu
  b2_Ruleu_initu : Vals [.non, .non] T.e2_Ruleu_initu ∧ Binds K T.d_Ruleu_initu ["self", "word", "tests", "own", "other", "foe", "low", "high", "side"] T.e2_Ruleu_initu
  b3_Ruleu_initu : Vals [(.int 0), .non, .non] T.e3_Ruleu_initu ∧ Binds K T.d_Ruleu_initu ["self", "word", "tests", "own", "other", "foe", "low", "high", "side"] T.e3_Ruleu_initu
  b4_Ruleu_initu : Vals [.non, (.int 0), .non, .non] T.e4_Ruleu_initu ∧ Binds K T.d_Ruleu_initu ["self", "word", "tests", "own", "other", "foe", "low", "high", "side"] T.e4_Ruleu_initu
  b5_Ruleu_initu : Vals [.non, .non, (.int 0), .non, .non] T.e5_Ruleu_initu ∧ Binds K T.d_Ruleu_initu ["self", "word", "tests", "own", "other", "foe", "low", "high", "side"] T.e5_Ruleu_initu
  b6_Ruleu_initu : Vals [.non, .non, .non, (.int 0), .non, .non] T.e6_Ruleu_initu ∧ Binds K T.d_Ruleu_initu ["self", "word", "tests", "own", "other", "foe", "low", "high", "side"] T.e6_Ruleu_initu
  b7_Ruleu_initu : Vals [(.ref T.w0_Ruleu_initu), .non, .non, .non, (.int 0), .non, .non] T.e7_Ruleu_initu ∧ Binds K T.d_Ruleu_initu ["self", "word", "tests", "own", "other", "foe", "low", "high", "side"] T.e7_Ruleu_initu
  F_Ruleu_equ : Fun K "__eq__" "Rule.__eq__" s_Ruleu_equ T.f_Ruleu_equ T.d_Ruleu_equ
  b_Ruleu_equ : Binds K T.d_Ruleu_equ ["self", "other"] []
  F_Rule_raised : Fun K "raised" "Rule.raised" s_Rule_raised T.f_Rule_raised T.d_Rule_raised
  b_Rule_raised : Binds K T.d_Rule_raised ["self", "by"] []
  F_Lmix : Fun K "_law_mix" "_law_mix" s_Lmix T.f_Lmix T.d_Lmix
  m_Lmix : mg "_law_mix" = some (.ref T.f_Lmix)
  b_Lmix : Binds K T.d_Lmix ["_law_number", "_law_turn"] []
  F_Lhand : Fun K "_law_hand" "_law_hand" s_Lhand T.f_Lhand T.d_Lhand
  m_Lhand : mg "_law_hand" = some (.ref T.f_Lhand)
  b_Lhand : Binds K T.d_Lhand ["_law_script"] []
  F_Ldraw : Fun K "_law_draw" "_law_draw" s_Ldraw T.f_Ldraw T.d_Ldraw
  m_Ldraw : mg "_law_draw" = some (.ref T.f_Ldraw)
  b_Ldraw : Binds K T.d_Ldraw ["_law_hand_here", "_law_many"] []
  F_Lwhole : Fun K "_law_whole" "_law_whole" s_Lwhole T.f_Lwhole T.d_Lwhole
  m_Lwhole : mg "_law_whole" = some (.ref T.f_Lwhole)
  b_Lwhole : Binds K T.d_Lwhole ["_law_thing"] []
  F_Lpick : Fun K "_law_pick" "_law_pick" s_Lpick T.f_Lpick T.d_Lpick
  m_Lpick : mg "_law_pick" = some (.ref T.f_Lpick)
  b_Lpick : Binds K T.d_Lpick ["_law_hand_here", "_law_things"] []
  F_Lshape : Fun K "_law_shape" "_law_shape" s_Lshape T.f_Lshape T.d_Lshape
  m_Lshape : mg "_law_shape" = some (.ref T.f_Lshape)
  b_Lshape : Binds K T.d_Lshape ["_law_hand_here", "_law_row"] []
  F_Ldeep : Fun K "_law_deep" "_law_deep" s_Ldeep T.f_Ldeep T.d_Ldeep
  m_Ldeep : mg "_law_deep" = some (.ref T.f_Ldeep)
  b_Ldeep : Binds K T.d_Ldeep ["_law_hand_here", "_law_rows"] []
  F_Lsame : Fun K "_law_same" "_law_same" s_Lsame T.f_Lsame T.d_Lsame
  m_Lsame : mg "_law_same" = some (.ref T.f_Lsame)
  b_Lsame : Binds K T.d_Lsame ["_law_answer", "_law_due"] []
  F_Lnames : Fun K "_law_names" "_law_names" s_Lnames T.f_Lnames T.d_Lnames
  m_Lnames : mg "_law_names" = some (.ref T.f_Lnames)
  b_Lnames : Binds K T.d_Lnames ["_law_hand_here"] []
  F_Ltests : Fun K "_law_tests" "_law_tests" s_Ltests T.f_Ltests T.d_Ltests
  m_Ltests : mg "_law_tests" = some (.ref T.f_Ltests)
  b_Ltests : Binds K T.d_Ltests ["_law_hand_here", "_law_names_here"] []
  F_Lasked : Fun K "_law_asked" "_law_asked" s_Lasked T.f_Lasked T.d_Lasked
  m_Lasked : mg "_law_asked" = some (.ref T.f_Lasked)
  b_Lasked : Binds K T.d_Lasked ["_law_hand_here", "_law_ladder"] []
  F_Lrule : Fun K "_law_rule" "_law_rule" s_Lrule T.f_Lrule T.d_Lrule
  m_Lrule : mg "_law_rule" = some (.ref T.f_Lrule)
  b_Lrule : Binds K T.d_Lrule ["_law_hand_here", "_law_names_here", "_law_ladder", "_law_guarded"] []
  F_Lmade : Fun K "_law_made" "_law_made" s_Lmade T.f_Lmade T.d_Lmade
  m_Lmade : mg "_law_made" = some (.ref T.f_Lmade)
  b_Lmade : Binds K T.d_Lmade ["_law_hand_here", "_law_rule_here"] []
  F_Lis_rule : Fun K "_law_is_rule" "_law_is_rule" s_Lis_rule T.f_Lis_rule T.d_Lis_rule
  m_Lis_rule : mg "_law_is_rule" = some (.ref T.f_Lis_rule)
  b_Lis_rule : Binds K T.d_Lis_rule ["_law_told", "_law_rule_here"] []
  F_Lup : Fun K "_law_up" "_law_up" s_Lup T.f_Lup T.d_Lup
  m_Lup : mg "_law_up" = some (.ref T.f_Lup)
  b_Lup : Binds K T.d_Lup ["_law_word", "_law_by"] []
  F_Lraised : Fun K "_law_raised" "_law_raised" s_Lraised T.f_Lraised T.d_Lraised
  m_Lraised : mg "_law_raised" = some (.ref T.f_Lraised)
  b_Lraised : Binds K T.d_Lraised ["_law_rule_here", "_law_by"] []
  F_Lodd : Fun K "_law_odd" "_law_odd" s_Lodd T.f_Lodd T.d_Lodd
  m_Lodd : mg "_law_odd" = some (.ref T.f_Lodd)
  b_Lodd : Binds K T.d_Lodd ["_law_place", "_law_rule_here"] []
  F_Ltries : Fun K "_law_tries" "_law_tries" s_Ltries T.f_Ltries T.d_Ltries
  m_Ltries : mg "_law_tries" = some (.ref T.f_Ltries)
  b_Ltries : Binds K T.d_Ltries ["_law_things"] []
  F_Llabels : Fun K "_law_labels" "_law_labels" s_Llabels T.f_Llabels T.d_Llabels
  m_Llabels : mg "_law_labels" = some (.ref T.f_Llabels)
  b_Llabels : Binds K T.d_Llabels [] []
  F_Lrefused : Fun K "_law_refused" "_law_refused" s_Lrefused T.f_Lrefused T.d_Lrefused
  m_Lrefused : mg "_law_refused" = some (.ref T.f_Lrefused)
  b_Lrefused : Binds K T.d_Lrefused ["_law_hand_here", "_law_rule_here"] []
  F_Lother : Fun K "_law_other" "_law_other" s_Lother T.f_Lother T.d_Lother
  m_Lother : mg "_law_other" = some (.ref T.f_Lother)
  b_Lother : Binds K T.d_Lother ["_law_rule_here", "_law_place", "_law_name"] []
  F_Lequal : Fun K "_law_equal" "_law_equal" s_Lequal T.f_Lequal T.d_Lequal
  m_Lequal : mg "_law_equal" = some (.ref T.f_Lequal)
  b_Lequal : Binds K T.d_Lequal ["_law_hand_here", "_law_rule_here", "_law_name"] []
  F_Lleft_out : Fun K "_law_left_out" "_law_left_out" s_Lleft_out T.f_Lleft_out T.d_Lleft_out
  m_Lleft_out : mg "_law_left_out" = some (.ref T.f_Lleft_out)
  b_Lleft_out : Binds K T.d_Lleft_out ["_law_rule_here"] []
  F_Lraise : Fun K "_law_raise" "_law_raise" s_Lraise T.f_Lraise T.d_Lraise
  m_Lraise : mg "_law_raise" = some (.ref T.f_Lraise)
  b_Lraise : Binds K T.d_Lraise ["_law_made_here", "_law_by"] []
  F_Lraises : Fun K "_law_raises" "_law_raises" s_Lraises T.f_Lraises T.d_Lraises
  m_Lraises : mg "_law_raises" = some (.ref T.f_Lraises)
  b_Lraises : Binds K T.d_Lraises ["_law_hand_here", "_law_rule_here"] []
  F_law : Fun K "law" "law" s_law T.f_law T.d_law
  m_law : mg "law" = some (.ref T.f_law)
  b_law : Binds K T.d_law ["_law_script"] []
  m_CallError : mg "CallError" = some (.ref T.C_CallError)
  e_CallError : Jv.ExcP K T.C_CallError
  m_BadRule : mg "BadRule" = some (.ref T.C_BadRule)
  x_BadRule : Jv.ExcI K T.C_BadRule T.f_BadRuleu_initu
  m_BadRaise : mg "BadRaise" = some (.ref T.C_BadRaise)
  e_BadRaise : Jv.ExcP K T.C_BadRaise
  m_Rule : mg "Rule" = some (.ref T.C_Rule)
  o_Rule : Cls K T.C_Rule
  k_Rule : Mk K T.C_Rule T.f_Ruleu_initu
  h_Ruleu_equ : Meth K T.C_Rule "__eq__" T.f_Ruleu_equ
  h_Rule_raised : Meth K T.C_Rule "raised" T.f_Rule_raised
  n_Rule_word : NoAttr K T.C_Rule "word"
  n_Rule_tests : NoAttr K T.C_Rule "tests"
  n_Rule_own : NoAttr K T.C_Rule "own"
  n_Rule_other : NoAttr K T.C_Rule "other"
  n_Rule_foe : NoAttr K T.C_Rule "foe"
  n_Rule_low : NoAttr K T.C_Rule "low"
  n_Rule_high : NoAttr K T.C_Rule "high"
  n_Rule_side : NoAttr K T.C_Rule "side"
  z_ValueError : mg "ValueError" = none
  z_abs : mg "abs" = none
  z_all : mg "all" = none
  z_any : mg "any" = none
  z_bool : mg "bool" = none
  z_enumerate : mg "enumerate" = none
  z_int : mg "int" = none
  z_isinstance : mg "isinstance" = none
  z_len : mg "len" = none
  z_list : mg "list" = none
  z_max : mg "max" = none
  z_min : mg "min" = none
  z_range : mg "range" = none
  z_str : mg "str" = none
  z_tuple : mg "tuple" = none
  z_zip : mg "zip" = none
  c_EAST : mg "EAST" = some (.int (0) T.t_EAST)
  c_WEST : mg "WEST" = some (.int (1) T.t_WEST)
  c_LADDER_MOST : mg "LADDER_MOST" = some (.int (6) T.t_LADDER_MOST)
  c_LETTERS_MOST : mg "LETTERS_MOST" = some (.int (8) T.t_LETTERS_MOST)
  c_NUMBER_MOST : mg "NUMBER_MOST" = some (.int (40) T.t_NUMBER_MOST)
  c_NONE : mg "NONE" = some (.str "none" T.t_NONE)
  c_TESTS_MOST : mg "TESTS_MOST" = some (.int (4) T.t_TESTS_MOST)
  n_BadRule_what : PySem.W.findIn K (.ref T.C_BadRule) "what" = some none
  kb2_foe_high_other_Ruleu_initu : KBn K T.d_Ruleu_initu ["self", "word", "tests", "own", "other", "foe", "low", "high", "side"] 2 ["foe", "high", "other"] (fun us ws => us ++ [T.e7_Ruleu_initu.getD 0 .none, T.e7_Ruleu_initu.getD 1 .none, ws.getD 2 .none, ws.getD 0 .none, T.e7_Ruleu_initu.getD 4 .none, ws.getD 1 .none, T.e7_Ruleu_initu.getD 6 .none]) (fun vs zs => vs ++ [(.ref T.w0_Ruleu_initu), .non, zs.getD 2 .non, zs.getD 0 .non, (.int 0), zs.getD 1 .non, .non])
  kb2_low_side_own_tests_Ruleu_initu : KBn K T.d_Ruleu_initu ["self", "word", "tests", "own", "other", "foe", "low", "high", "side"] 2 ["low", "side", "own", "tests"] (fun us ws => us ++ [ws.getD 3 .none, ws.getD 2 .none, T.e7_Ruleu_initu.getD 2 .none, T.e7_Ruleu_initu.getD 3 .none, ws.getD 0 .none, T.e7_Ruleu_initu.getD 5 .none, ws.getD 1 .none]) (fun vs zs => vs ++ [zs.getD 3 .non, zs.getD 2 .non, .non, .non, zs.getD 0 .non, .non, zs.getD 1 .non])
  i_Rule_ca : PySem.W.findIn K (.ref T.C_Rule) "__class__" = some (some (.builtin "object.__class__"))
  i_Rule_cn : PySem.W.specialIn K (.builtin "object.__class__") "__get__" = some (some (.builtin "getset_descriptor.__get__"))
  i_Rule_ct : PySem.W.takesIn K (.builtin "object.__class__") = some true
  i_Rule_cm : PySem.W.mroIn K T.C_Rule (.type "object") = some true
  i_Rule_kt : PySem.W.kitOne K (.type "tuple") (.ref T.C_Rule) = some false
  i_Rule_nt : PySem.W.notFirst K T.C_Rule (.type "tuple") = true
  i_Rule_ne : PySem.W.findIn K (.ref T.C_Rule) "__ne__" = some (some (.builtin "object.__ne__"))
  i_BadRule_ga : PySem.W.findIn K (.ref T.C_BadRule) "__getattribute__" = some (some (.builtin "BaseException.__getattribute__"))
  i_BadRule_gg : PySem.W.findIn K (.ref T.C_BadRule) "__getattr__" = some none
  i_BadRule_xca : PySem.W.findIn K (.ref T.C_BadRule) "__class__" = some (some (.builtin "object.__class__"))
  i_BadRule_mr : PySem.W.mroIn K T.C_BadRule (.type "object") = some true
  i_BadRule_xc : PySem.W.kitOne K (.ref T.C_BadRule) (.ref T.C_CallError) = some true
  i_BadRaise_ga : PySem.W.findIn K (.ref T.C_BadRaise) "__getattribute__" = some (some (.builtin "BaseException.__getattribute__"))
  i_BadRaise_gg : PySem.W.findIn K (.ref T.C_BadRaise) "__getattr__" = some none
  i_BadRaise_xca : PySem.W.findIn K (.ref T.C_BadRaise) "__class__" = some (some (.builtin "object.__class__"))
  i_BadRaise_mr : PySem.W.mroIn K T.C_BadRaise (.type "object") = some true
  i_BadRaise_xc : PySem.W.kitOne K (.ref T.C_BadRaise) (.ref T.C_CallError) = some true
end K17

namespace K17
open PySem PySem.Spec PyProof.Rows L2
/-! ### the law's draws: any number below the bound may come -/
def sp_Lmix : Sp := fun vs H Q _ => ∃ n t : Int, vs = [.int n, .int t] ∧ (0 ≤ n ∧ n < 2147483648 ∧ 0 ≤ t ∧ t ≤ 1000) ∧ ∀ r : Int, 0 ≤ r → r < 134217728 → Q (.int r) H
theorem mix_end (z : Int) : 0 ≤ z % 2147483563 / 16 ∧ z % 2147483563 / 16 < 134217728 := by omega
section
variable {P : Program} {w : World} {K : PySem.W.Frag} {mg : Str → Option Value} {base : Heap}
theorem ok_Lmix (T : Tx) (O : Ok K mg T) : FnOk P w K mg base CX0 1 T.f_Lmix T.d_Lmix ["_law_number", "_law_turn"] sp_Lmix := by
  refine O.F_Lmix.ok sc_Lmix (fun vs H Q E h => by obtain ⟨n, t, rfl, _⟩ := h; rfl) (fun cdv A outer s H vs Q E hr h => ?_)
  obtain ⟨n, t, rfl, ⟨h1, h2, h3, h4⟩, q⟩ := h
  refine ⟨_, (pss_cons (ps_set (i := 2) sc_Lmix.nd rfl (Or.inl rfl) (pe_op op_mod (pe_callTy (r := Jv.rInt) Jv.cr_int (by rfl) O.z_int (by decide +kernel) (pa_cons (pe_op op_add (pe_op op_add (pe_op op_mul (pv 0) pe_int) (pe_op op_mul (pv 1) pe_int)) pe_int) pa_nil)) pe_int))
  (pss_cons (ps_set (i := 3) sc_Lmix.nd rfl (Or.inl rfl) (pe_op op_mod (pe_callTy (r := Jv.rInt) Jv.cr_int (by rfl) O.z_int (by decide +kernel) (pa_cons (pe_op op_add (pe_op op_add (pe_op op_mul (pv 2) (pv 2)) (pe_op op_mul (pe_op op_fdivW (pv 2) pe_int) pe_int)) (pe_op op_mul (pv 1) pe_int)) pa_nil)) pe_int))
  (pss_one (ps_ret (pe_op op_fdivW (pe_op op_mod (pe_callTy (r := Jv.rInt) Jv.cr_int (by rfl) O.z_int (by decide +kernel) (pa_cons (pe_op op_add (pe_op op_fdivW (pe_op op_mul (pv 3) (pv 3)) pe_int) (pv 2)) pa_nil)) pe_int) pe_int))))), ?_⟩
  walk_at "r"
  exact q _ (mix_end _).1 (mix_end _).2
end
end K17

namespace Jv
open PySem PySem.Spec PyProof.Rows L2
/-! ### the hand: numbers still to be used, a place, a rest, a total -/
structure HandAt (H : Hp) (p l : Addr) (ns : List Int) (k c t : Int) : Prop where
  hp : H p = some (.lst [.ref l, .int k, .int c, .int t])
  hl : H l = some (.lst (ns.map V.int))
  nn : ∀ n ∈ ns, 0 ≤ n
  few : ns.length ≤ 63
  bd : 0 ≤ k ∧ k ≤ ns.length ∧ 0 ≤ c ∧ 0 ≤ t ∧ t < 2147483629
def Hand (H : Hp) (p l : Addr) : Prop := ∃ ns k c t, HandAt H p l ns k c t
theorem HandAt.ne {H : Hp} {p l : Addr} {ns : List Int} {k c t : Int} (h : HandAt H p l ns k c t) : l ≠ p := fun e => by
  have q := h.hp
  rw [← e, h.hl] at q
  have q2 := HO.lst.inj (Option.some.inj q)
  cases ns with
  | nil => cases q2
  | cons a r => cases q2
/-- all but what stands at p is as it was -/
def Kp (p : Addr) (H H' : Hp) : Prop := ∀ b o, b ≠ p → H b = some o → H' b = some o
theorem Kp.refl {p : Addr} {H : Hp} : Kp p H H := fun _ _ _ e => e
theorem Kp.trans {p : Addr} {H H1 H2 : Hp} (a : Kp p H H1) (b : Kp p H1 H2) : Kp p H H2 := fun c o n e => b c o n (a c o n e)
theorem Kp.same {p : Addr} {H H' : Hp} (a : Same H H') : Kp p H H' := fun c o _ e => a c o e
theorem Kp.upd {p : Addr} {H : Hp} {o : HO} : Kp p H (upd H p o) := fun c u n e => by rw [upd_ne n]; exact e
theorem Kp.new {p q : Addr} {H : Hp} {o : HO} (n : H q = none) : Kp p H (L2.upd H q o) := Kp.same (same_new n)
theorem Hand.same {H H' : Hp} {p l : Addr} (h : Hand H p l) (s : Same H H') : Hand H' p l := by
  obtain ⟨ns, k, c, t, h⟩ := h
  exact ⟨ns, k, c, t, s _ _ h.hp, s _ _ h.hl, h.nn, h.few, h.bd⟩
theorem Hand.at {H : Hp} {p l : Addr} (h : Hand H p l) : ∃ o, H p = some o := by
  obtain ⟨ns, k, c, t, h⟩ := h
  exact ⟨_, h.hp⟩
theorem Hand.set {H : Hp} {p l : Addr} {ns : List Int} {k c t k' c' t' : Int} (h : HandAt H p l ns k c t) (b : 0 ≤ k' ∧ k' ≤ ns.length ∧ 0 ≤ c' ∧ 0 ≤ t' ∧ t' < 2147483629) :
    HandAt (upd H p (.lst [.ref l, .int k', .int c', .int t'])) p l ns k' c' t' :=
  ⟨upd_same, by rw [upd_ne h.ne]; exact h.hl, h.nn, h.few, b⟩
end Jv
namespace K17
open PySem PySem.Spec PyProof.Rows L2
def sp_Lhand (K : PySem.W.Frag) : Sp := fun vs H Q _ => ∃ (a : Addr) (ns : List Int), vs = [.ref a] ∧ SqL K H a (ns.map V.int) ∧ ns.length ≤ 63 ∧ ∀ p l H', Same H H' → H p = none → Jv.Hand H' p l → Q (.ref p) H'
section
variable {P : Program} {w : World} {K : PySem.W.Frag} {mg : Str → Option Value} {base : Heap}
theorem ok_Lhand (T : Tx) (O : Ok K mg T) : FnOk P w K mg base CX0 1 T.f_Lhand T.d_Lhand ["_law_script"] (sp_Lhand K) := by
  refine O.F_Lhand.ok sc_Lhand (fun vs H Q E h => by obtain ⟨a, ns, rfl, _⟩ := h; rfl) (fun cdv A outer s H vs Q E hr h => ?_)
  obtain ⟨a, ns, rfl, hS, few, q⟩ := h
  refine ⟨_, (pss_cons (ps_set (i := 1) sc_Lhand.nd rfl (Or.inl rfl) pe_int)
  (pss_cons (ps_for PassesOwn.never rfl (show PI _ _ _ (iEnum K _) from pi_enum (by rfl) O.z_enumerate (pa_cons (pv 0) pa_nil)) (pg_tup rfl (pgs_cons (pg_name (i := 2) sc_Lhand.nd rfl (Or.inl rfl)) (pgs_cons (pg_name (i := 3) sc_Lhand.nd rfl (Or.inl rfl)) pgs_nil))) (pss_one (ps_set (i := 1) sc_Lhand.nd rfl (Or.inl rfl) (pe_op op_mod (pe_callTy (r := Jv.rInt) Jv.cr_int (by rfl) O.z_int (by decide +kernel) (pa_cons (pe_op op_add (pe_op op_mul (pv 1) pe_int) (pe_op op_mul (pe_callTy (r := Jv.rInt) Jv.cr_int (by rfl) O.z_int (by decide +kernel) (pa_cons (pv 3) pa_nil)) (pe_op op_add (pv 2) pe_int))) pa_nil)) pe_int))))
  (pss_one (ps_ret (pe_lst (pa_cons (pe_lc (own := [("_law_cell", 3)]) (by rfl) sc_Lhand.nd (show PI _ _ _ (iList K _) from pi_list (pv 0)) (blkOk_by (own := [("_law_cell", 3)]) (N := ["_law_script", "_law_total", "_law_k", "_law_cell"]) (sc := defScope s_Lhand) (scope := ({ kind := .function, names := [(".0", .local), ("_law_cell", .local), ("abs", .globalImplicit), ("int", .globalImplicit)], isGenerator := false, isCoroutine := false } : Scope)) (by decide +kernel)) (fun _ _ _ _ _ => (pg_name (i := 3) sc_Lhand.nd rfl (Or.inl rfl))) (fun _ _ _ _ _ => pts_nil) (fun _ _ _ _ _ => (pe_callB (r := Jv.rAbs) Jv.cr_abs (by rfl) O.z_abs (by decide +kernel) (pa_cons (pe_callTy (r := Jv.rInt) Jv.cr_int (by rfl) O.z_int (by decide +kernel) (pa_cons (pv 3) pa_nil)) pa_nil)))) (pa_cons pe_int (pa_cons pe_int (pa_cons (pv 1) pa_nil))))))))), ?_⟩
  walk_at "r"
  refine ⟨_, _, rfl, hS, ?_⟩
  refine for_it (walk_enum (K := K) (a := a) (xs := ns.map V.int)) (fun i σ H' => ∃ y2 y3 tot, σ = [some (.ref a), some (.int tot), y2, y3] ∧ (0 ≤ tot ∧ tot < 2147483629) ∧ Same H H') ⟨_, _, 0, rfl, by decide, fun _ _ e => e⟩ (fun i σ H' _ ⟨_, _, _, _, _, sm⟩ => sm.seq hS) ?_ ?_
  · rintro i x σ H1 H2 hi ⟨y2, y3, tot, rfl, hb, sm⟩ ⟨p, x1, x2, rfl, hp, rfl, hx, hy⟩
    cases hx
    obtain ⟨z, hz, rfl⟩ := Jv.map_at (show (ns.map V.int)[i]? = some x2 from hy)
    rw [List.length_map] at hi
    walk_at "r"
    exact ⟨_, _, _, rfl, by omega, sm.trans (Jv.same_new hp)⟩
  · rintro σ H' ⟨y2, y3, tot, rfl, hb, sm⟩
    walk_at "r"
    refine ⟨_, rfl, _, rfl, ⟨_, sm.seq hS⟩, fun p hp => ?_⟩
    refine lc_it (walk_list (K := K) (a := a) (xs := ns.map V.int)) (fun i H1 => ∃ zs : List Int, Same H H1 ∧ H1 p = some (.lst (zs.map V.int)) ∧ zs.length = i ∧ ∀ z ∈ zs, 0 ≤ z) ⟨[], sm.trans (Jv.same_new hp), upd_same, rfl, by simp⟩ (fun i H1 _ ⟨_, s1, _⟩ => s1.seq hS) ?_ ?_
    · rintro i x H1 H2 hi ⟨zs, s1, e1, hl, nn⟩ ⟨rfl, hx⟩
      obtain ⟨z, hz, rfl⟩ := Jv.map_at hx
      rw [List.length_map] at hi
      walk_at "r"
      refine ⟨zs.map V.int, e1, ?_, zs ++ [if z < 0 then -z else z], ?_, ?_, ?_, ?_⟩
      · rw [List.length_map, hl]; exact Jv.small_lt (by omega)
      · intro b o e; exact Jv.kpO (s1 b o e) (ne_of_none (sm b o e) hp)
      · rw [upd_same, List.map_append]; rfl
      · rw [List.length_append, hl]; rfl
      · intro y hy
        rcases List.mem_append.mp hy with hy | hy
        · exact nn y hy
        · rw [List.mem_singleton.mp hy]; split <;> omega
    · rintro H1 ⟨zs, s1, e1, hl, nn⟩
      walk_at "r"
      intro p2 hp2
      rw [List.length_map] at hl
      exact q p2 p _ (s1.trans (Jv.same_new hp2)) (s1.free hp2) ⟨zs, 0, 0, tot, upd_same, Jv.kp e1 hp2, nn, by omega, by omega⟩
end
end K17

namespace K17
open PySem PySem.Spec PyProof.Rows L2
def sp_Ldraw : Sp := fun vs H Q _ => ∃ (p l : Addr) (m : Int), vs = [.ref p, .int m] ∧ Jv.Hand H p l ∧ (0 < m ∧ m.natAbs.log2 < 9000) ∧ ∀ r H', 0 ≤ r → r < m → Jv.Kp p H H' → Jv.Hand H' p l → Q (.int r) H'
section
variable {P : Program} {w : World} {K : PySem.W.Frag} {mg : Str → Option Value} {base : Heap}
theorem ok_Ldraw (T : Tx) (O : Ok K mg T) : FnOk P w K mg base CX0 2 T.f_Ldraw T.d_Ldraw ["_law_hand_here", "_law_many"] sp_Ldraw := by
  refine O.F_Ldraw.ok sc_Ldraw (fun vs H Q E h => by obtain ⟨_, _, _, rfl, _⟩ := h; rfl) (fun cdv A outer s H vs Q E hr h => ?_)
  obtain ⟨p, l, m, rfl, ⟨ns, k, c, t, hA⟩, ⟨m0, m1⟩, q⟩ := h
  obtain ⟨hp, hl, nn, few, b1, b2, b3, b4, b5⟩ := id hA
  have nlp := hA.ne
  have e0 : ∀ z : Int, 0 ≤ z % m := fun z => Int.emod_nonneg _ (by omega)
  have e1 : ∀ z : Int, z % m < m := fun z => Int.emod_lt_of_pos _ m0
  refine ⟨_, (C8.pss_cut (ps_if (PW.pt (pw_and (pt_cmpR op_eq (pe_ix (r := rIxL K) ix_list (pv 0) pe_int (fun _ _ => rfl)) pe_int (nomark _)) (pw_and1 (pt_cmpR op_lt (pe_ix (r := rIxL K) ix_list (pv 0) pe_int (fun _ _ => rfl)) (pe_callB (r := Jv.rLenK K) Jv.cr_len (by rfl) O.z_len (by decide +kernel) (pa_cons (pe_ix (r := rIxL K) ix_list (pv 0) pe_int (fun _ _ => rfl)) pa_nil)) (nomark _))))) (pss_cons (ps_set (i := 2) sc_Ldraw.nd rfl (Or.inl rfl) (pe_ix (r := rIxL K) ix_list (pe_ix (r := rIxL K) ix_list (pv 0) pe_int (fun _ _ => rfl)) (pe_ix (r := rIxL K) ix_list (pv 0) pe_int (fun _ _ => rfl)) (fun _ _ => rfl)))
  (pss_cons (ps_asg (pe_op op_add (pe_ix (r := rIxL K) ix_list (pv 0) pe_int (fun _ _ => rfl)) pe_int) (pg_sub (pv 0) pe_int set_list))
  (pss_cons (ps_if (pt_cmpR op_lt (pv 2) (pe_op op_pow pe_int pe_int) (nomark _)) (pss_one (ps_ret (pe_op op_mod (pe_callTy (r := Jv.rInt) Jv.cr_int (by rfl) O.z_int (by decide +kernel) (pa_cons (pe_call (ok_Lmix T O) (hr.mono (by decide)) (by rfl) O.m_Lmix O.F_Lmix.kp O.b_Lmix .nil pass0 (pa_cons (pe_op op_mod (pe_callTy (r := Jv.rInt) Jv.cr_int (by rfl) O.z_int (by decide +kernel) (pa_cons (pv 2) pa_nil)) pe_int) (pa_cons (pe_ix (r := rIxL K) ix_list (pv 0) pe_int (fun _ _ => rfl)) pa_nil))) pa_nil)) (pv 1)))) pss_nil)
  (pss_one (ps_asg (pv 2) (pg_sub (pv 0) pe_int set_list)))))) pss_nil)
  (pss_cons (ps_if (pt_cmpR op_gt (pe_ix (r := rIxL K) ix_list (pv 0) pe_int (fun _ _ => rfl)) pe_int (nomark _)) (pss_cons (ps_set (i := 3) sc_Ldraw.nd rfl (Or.inl rfl) (pe_ix (r := rIxL K) ix_list (pv 0) pe_int (fun _ _ => rfl)))
  (pss_cons (ps_asg (pe_op op_fdivW (pv 3) (pv 1)) (pg_sub (pv 0) pe_int set_list))
  (pss_one (ps_ret (pe_op op_mod (pe_callTy (r := Jv.rInt) Jv.cr_int (by rfl) O.z_int (by decide +kernel) (pa_cons (pv 3) pa_nil)) (pv 1)))))) pss_nil)
  (pss_cons (ps_asg (pe_op op_mod (pe_callTy (r := Jv.rInt) Jv.cr_int (by rfl) O.z_int (by decide +kernel) (pa_cons (pe_op op_add (pe_ix (r := rIxL K) ix_list (pv 0) pe_int (fun _ _ => rfl)) pe_int) pa_nil)) pe_int) (pg_sub (pv 0) pe_int set_list))
  (pss_one (ps_ret (pe_op op_mod (pe_callTy (r := Jv.rInt) Jv.cr_int (by rfl) O.z_int (by decide +kernel) (pa_cons (pe_call (ok_Lmix T O) (hr.mono (by decide)) (by rfl) O.m_Lmix O.F_Lmix.kp O.b_Lmix .nil pass0 (pa_cons (pe_ix (r := rIxL K) ix_list (pv 0) pe_int (fun _ _ => rfl)) (pa_cons (pe_ix (r := rIxL K) ix_list (pv 0) pe_int (fun _ _ => rfl)) pa_nil))) pa_nil)) (pv 1))))))), ?_⟩
  refine ⟨fun σ' H' => ∃ k c t y2 y3, σ' = [some (.ref p), some (.int m), y2, y3] ∧ Jv.HandAt H' p l ns k c t ∧ Jv.Kp p H H', ?_, ?_⟩
  · walk_at "r"
    refine Jv.r_decI (fun hc => ?_) (fun hc => ?_)
    · walk_at "r"
      refine Jv.r_dec (fun hk => ?_) (fun hk => ?_)
      · rw [List.length_map] at hk
        have hk2 : k.toNat < ns.length := by omega
        have at1 : atI (ns.map V.int) k = some (.int ns[k.toNat]) := Jv.at_i b1 (Jv.map_get hk2)
        have n0 := nn ns[k.toNat] (List.getElem_mem _)
        generalize ns[k.toNat] = z at at1 n0
        walk_at "r"
        refine' Jv.r_ixL ?hs at1 ?_
        case hs => walk_at "sq"
        walk_at "r"
        refine Jv.r_dec (fun hz => ?_) (fun hz => ?_)
        · walk_at "r"
          refine ⟨_, _, rfl, ⟨by omega, by omega, by omega, by omega⟩, fun r h1 h2 => ?_⟩
          walk_at "r"
          exact q _ _ (e0 _) (e1 _) Jv.Kp.upd ⟨_, _, _, _, Jv.Hand.set hA ⟨by omega, by omega, b3, b4, b5⟩⟩
        · walk_at "r"
          exact ⟨k + 1, z, t, _, _, rfl, Jv.Hand.set (Jv.Hand.set hA ⟨by omega, by omega, b3, b4, b5⟩) ⟨by omega, by omega, n0, b4, b5⟩, Jv.Kp.upd.trans Jv.Kp.upd⟩
      · walk_at "r"
        exact ⟨k, c, t, _, _, rfl, hA, Jv.Kp.refl⟩
    · walk_at "r"
      exact ⟨k, c, t, _, _, rfl, hA, Jv.Kp.refl⟩
  · rintro σ' H' ⟨k, c, t, y2, y3, rfl, hB, kp⟩
    obtain ⟨hp, hl, nn, few, b1, b2, b3, b4, b5⟩ := id hB
    walk_at "r"
    refine Jv.r_dec (fun hc => ?_) (fun hc => ?_)
    · walk_at "r"
      refine q _ _ (e0 _) (e1 _) (kp.trans Jv.Kp.upd) ⟨_, _, _, _, Jv.Hand.set hB ⟨b1, b2, Int.ediv_nonneg b3 (by omega), b4, b5⟩⟩
    · walk_at "r"
      refine ⟨_, _, rfl, ⟨by omega, by omega, b1, by omega⟩, fun r h1 h2 => ?_⟩
      walk_at "r"
      exact q _ _ (e0 _) (e1 _) (kp.trans Jv.Kp.upd) ⟨_, _, _, _, Jv.Hand.set hB ⟨b1, b2, b3, by omega, by omega⟩⟩
end
end K17

namespace Jv
open PySem PySem.Spec PyProof.Rows L2
section
variable {σ : L2.St} {H : Hp} {te : TE} {Q : VK} {i j : Nat} {z : Str}
theorem lcStr (hv : σ[i]? = some (some (.str z))) (f : Nat → Bool) (few : z.length ≤ 1000)
    (hs : ∀ c H1, Same H H1 → ∀ P : VK, P (.bl (f c)) H1 → te ((σ.set j none).set j (some (.str ⟨#[c]⟩))) H1 P)
    (hd : ∀ D H1, Same H H1 → H D = none → H1 D = some (.lst (z.cps.toList.map fun c => V.bl (f c))) → Q (.ref D) H1) : tLc (iStr (tVar i)) (gName j) tYes te [j] σ H Q := by
  refine ⟨_, hv, z, rfl, fun D hD => ?_⟩
  have hn : z.cps.size = z.cps.toList.length := by simp
  refine lc_it walk_str (fun n H1 => Same H H1 ∧ H1 D = some (.lst ((z.cps.toList.take n).map fun c => V.bl (f c)))) ⟨same_new hD, upd_same⟩ (fun _ _ _ _ => True.intro) ?_ ?_
  · rintro n x H1 H2 hi ⟨s1, e1⟩ ⟨rfl, c, hc, rfl⟩
    refine ⟨wipe1, r_yes (r_true (c := true) rfl ?_)⟩
    refine hs c _ s1 _ ⟨_, e1, ?_, fun b o e => kpO (s1 b o e) (ne_of_none e hD), ?_⟩
    · rw [List.length_map, List.length_take]
      have : z.length = z.cps.size := rfl
      exact small_lt (by omega)
    · rw [upd_same]
      have hc2 : z.cps.toList[n]? = some c := by rw [← hc]; simp
      rw [take_more hc2, List.map_append]; rfl
  · rintro H1 ⟨s1, e1⟩
    rw [hn, List.take_length] at e1
    exact hd D H1 s1 hD e1
end
end Jv
namespace Jv
open PySem PySem.Spec PyProof.Rows L2
theorem pgOr {X : Cx} {t : Expr} {g h : TG} (a : PG X t g) (b : PG X t h) : PG X t (fun v σ H Q => g v σ H Q ∨ h v σ H Q) := ⟨fun pins s σ H v u Q I r q => q.elim (a.run pins s σ H v u Q I r) (b.run pins s σ H v u Q I r)⟩
theorem Sk.unp {K : PySem.W.Frag} {H : Hp} {x : V} {xs : List V} {n : Nat} {gs : TGs} {σ : L2.St} {Q : L2.St → Hp → Prop} (h : Sk K H x xs) (hl : xs.length = n) (q : gs xs σ H Q) : gLst K n gs x σ H Q ∨ gTup K n gs x σ H Q := by
  obtain ⟨a, rfl, h | h⟩ := h
  · exact .inl ⟨a, xs, rfl, h, hl, q⟩
  · exact .inr ⟨a, xs, rfl, h, hl, q⟩
end Jv
namespace K17
open PySem PySem.Spec PyProof.Rows L2
/-! ### what the parts of a rule may be -/
def letter (c : Nat) : Bool := decide (97 ≤ c) && decide (c ≤ 122)
def nameS (z : Str) : Bool := (decide (1 ≤ z.length) && decide (z.length ≤ 8)) && z.cps.toList.all letter
def nameD : PyData → Bool
  | .str z => nameS z
  | _ => false
def nfew (d : PyData) : Prop := ∀ z, d = .str z → z.length ≤ 1000
def loV : PyData → V
  | .int i => .int i
  | _ => .non
def testD (d : PyData) : Bool := match Jv.seqD d with
  | some [m, lo, hi] => nameD m && (Jv.wholeD lo (.int 0) (.int 40) && Jv.wholeD hi (loV lo) (.int 40))
  | _ => false
def testsD (d : PyData) : Bool := match Jv.seqD d with
  | some ds => decide (ds.length ≤ 4) && ds.all testD
  | none => false
theorem test_no {d : PyData} {es : List PyData} (e : Jv.seqD d = some es) (h : es.length ≠ 3) : testD d = false := by
  unfold testD
  rw [e]
  match es, h with
  | [], _ => rfl
  | [_], _ => rfl
  | [_, _], _ => rfl
  | [_, _, _], h => exact absurd rfl h
  | _ :: _ :: _ :: _ :: _, _ => rfl
theorem test_yes {d m lo hi : PyData} (e : Jv.seqD d = some [m, lo, hi]) : testD d = (nameD m && (Jv.wholeD lo (.int 0) (.int 40) && Jv.wholeD hi (loV lo) (.int 40))) := by
  unfold testD; rw [e]
theorem len3 {α : Type} {es : List α} (h : es.length = 3) : ∃ a b c, es = [a, b, c] := by
  match es, h with
  | [a, b, c], _ => exact ⟨a, b, c, rfl⟩
def condD : PyData → Bool
  | .none => true
  | .str z => decide (z = Str.ofString "none")
  | d => Jv.wholeD d (.int 0) (.int 6)
def fewT (d : PyData) : Prop := ∀ es, Jv.seqD d = some es → es.length ≤ 100 ∧ ∀ x ∈ es, nfew x
def fewTs (d : PyData) : Prop := ∀ es, Jv.seqD d = some es → es.length ≤ 100 ∧ ∀ x ∈ es, fewT x
def sp_is_whole (K : PySem.W.Frag) : Sp := fun vs H Q _ => ∃ x d lo hi, vs = [x, lo, hi] ∧ Jv.Dv K H x d ∧ Jv.Bd lo ∧ Jv.Bd hi ∧ Q (.bl (Jv.wholeV x lo hi)) H
def sp_is_sequence (K : PySem.W.Frag) : Sp := fun vs H Q _ => ∃ x d, vs = [x] ∧ Jv.Dv K H x d ∧ ∀ H', Same H H' → Q (.bl (Jv.seqD d).isSome) H'
def sp_is_name (K : PySem.W.Frag) : Sp := fun vs H Q _ => ∃ x d, vs = [x] ∧ Jv.Dv K H x d ∧ nfew d ∧ ∀ H', Same H H' → Q (.bl (nameD d)) H'
def sp_is_test (K : PySem.W.Frag) : Sp := fun vs H Q _ => ∃ x d, vs = [x] ∧ Jv.Dv K H x d ∧ fewT d ∧ ∀ H', Same H H' → Q (.bl (testD d)) H'
def sp_are_tests (K : PySem.W.Frag) : Sp := fun vs H Q _ => ∃ x d, vs = [x] ∧ Jv.Dv K H x d ∧ fewTs d ∧ ∀ H', Same H H' → Q (.bl (testsD d)) H'
def sp_is_condition (K : PySem.W.Frag) : Sp := fun vs H Q _ => ∃ x d, vs = [x] ∧ Jv.Dv K H x d ∧ SeqAt.shaped d = true ∧ Q (.bl (condD d)) H
theorem lt_one (a b : Nat) : decide ([a] < [b]) = decide (a < b) := by
  by_cases h : a < b
  · rw [decide_eq_true h, decide_eq_true (show [a] < [b] from List.Lex.rel h)]
  · rw [decide_eq_false h, decide_eq_false (fun hh : [a] < [b] => by
      cases hh with
      | rel h2 => exact h h2
      | cons h2 => cases h2)]
theorem lower_ok (c : Nat) : (!decide ((⟨#[c]⟩ : Str).cps.toList < ("a" : Str).cps.toList)) = decide (97 ≤ c) := by
  rw [show ("a" : Str).cps.toList = [97] by decide +kernel]
  show (!decide ([c] < [97])) = _
  rw [lt_one]
  by_cases h : c < 97
  · rw [decide_eq_true h, decide_eq_false (by omega)]; rfl
  · rw [decide_eq_false h, decide_eq_true (by omega)]; rfl
theorem upper_ok (c : Nat) : (!decide (("z" : Str).cps.toList < (⟨#[c]⟩ : Str).cps.toList)) = decide (c ≤ 122) := by
  rw [show ("z" : Str).cps.toList = [122] by decide +kernel]
  show (!decide ([122] < [c])) = _
  rw [lt_one]
  by_cases h : 122 < c
  · rw [decide_eq_true h, decide_eq_false (by omega)]; rfl
  · rw [decide_eq_false h, decide_eq_true (by omega)]; rfl
section
variable {P : Program} {w : World} {K : PySem.W.Frag} {mg : Str → Option Value} {base : Heap}
theorem ok_is_whole (T : Tx) (O : Ok K mg T) : FnOk P w K mg base CX0 1 T.f_is_whole T.d_is_whole ["thing", "low", "high"] (sp_is_whole K) := by
  refine O.F_is_whole.ok sc_is_whole (fun vs H Q E h => by obtain ⟨_, _, _, _, rfl, _⟩ := h; rfl) (fun cdv A outer s H vs Q E hr h => ?_)
  obtain ⟨x, d, lo, hi, rfl, hx, hlo, hhi, q⟩ := h
  refine ⟨_, (pss_cons (ps_if (PW.pt (pw_or (pt_val (pe_callB (r := rIsi K) call_isi (by rfl) O.z_isinstance (by decide +kernel) (pa_cons (pv 0) (pa_cons (pe_bltn (v := .ty "bool") (by rfl) O.z_bool (by decide +kernel) rfl) pa_nil)))) (pw_or1 (pt_not (pt_val (pe_callB (r := rIsi K) call_isi (by rfl) O.z_isinstance (by decide +kernel) (pa_cons (pv 0) (pa_cons (pe_bltn (v := .ty "int") (by rfl) O.z_int (by decide +kernel) rfl) pa_nil)))))))) (pss_one (ps_ret pe_bl)) pss_nil)
  (pss_cons (ps_if (PW.pt (pw_and (pt_cmpR op_notN (pv 1) pe_non (nomark _)) (pw_and1 (pt_cmpR op_lt (pv 0) (pv 1) (nomark _))))) (pss_one (ps_ret pe_bl)) pss_nil)
  (pss_one (ps_ret (pe_or (pe_cmpR op_isN (pv 2) pe_non (nomark _)) (pe_one (pe_cmpR op_le (pv 0) (pv 2) (nomark _)))))))), ?_⟩
  walk_at "r"
  have hx2 := hx
  cases hx2 with
  | int i =>
    rcases hlo with rfl | ⟨a, rfl⟩
    · rcases hhi with rfl | ⟨b, rfl⟩ <;> walk_at "r" <;> exact q
    · by_cases h : i < a
      · rw [Jv.wholeV_lo0 h] at q
        walk_at "rr" <;> exact q
      · rw [Jv.wholeV_lo1 h] at q
        rcases hhi with rfl | ⟨b, rfl⟩ <;> walk_at "rr" <;> exact q
  | _ => walk_at "r"; exact q
theorem ok_is_sequence (T : Tx) (O : Ok K mg T) : FnOk P w K mg base CX0 1 T.f_is_sequence T.d_is_sequence ["thing"] (sp_is_sequence K) := by
  refine O.F_is_sequence.ok sc_is_sequence (fun vs H Q E h => by obtain ⟨_, _, rfl, _⟩ := h; rfl) (fun cdv A outer s H vs Q E hr h => ?_)
  obtain ⟨x, d, rfl, hx, q⟩ := h
  refine ⟨_, (pss_one (ps_ret (pe_callB (r := rIsiT K) call_isiT (by rfl) O.z_isinstance (by decide +kernel) (pa_cons (pv 0) (pa_cons (pe_tup (pa_cons (pe_bltn (v := .ty "list") (by rfl) O.z_list (by decide +kernel) rfl) (pa_cons (pe_bltn (v := .ty "tuple") (by rfl) O.z_tuple (by decide +kernel) rfl) pa_nil))) pa_nil))))), ?_⟩
  walk_at "r"
  intro p hp
  have hx2 := hx.same (Jv.same_new (u := .tup [.ty "list", .ty "tuple"]) hp)
  walk_at "r"
  exact q _ (Jv.same_new hp)
theorem ok_is_name (T : Tx) (O : Ok K mg T) : FnOk P w K mg base CX0 1 T.f_is_name T.d_is_name ["thing"] (sp_is_name K) := by
  refine O.F_is_name.ok sc_is_name (fun vs H Q E h => by obtain ⟨_, _, rfl, _⟩ := h; rfl) (fun cdv A outer s H vs Q E hr h => ?_)
  obtain ⟨x, d, rfl, hx, fw, q⟩ := h
  refine ⟨_, (pss_cons (ps_if (PW.pt (pw_or (pt_not (pt_val (pe_callB (r := rIsi K) call_isi (by rfl) O.z_isinstance (by decide +kernel) (pa_cons (pv 0) (pa_cons (pe_bltn (v := .ty "str") (by rfl) O.z_str (by decide +kernel) rfl) pa_nil))))) (pw_or1 (pt_not (pt_chain op_le op_le pe_int (pe_callB call_len_str (by rfl) O.z_len (by decide +kernel) (pa_cons (pv 0) pa_nil)) (pe_glob (v := .int (8)) (by rfl) O.c_LETTERS_MOST ⟨_, rfl⟩)))))) (pss_one (ps_ret pe_bl)) pss_nil)
  (pss_one (ps_ret (pe_callB (r := rAll K) (cr_all rfl) (by rfl) O.z_all (by decide +kernel) (pa_cons (pe_lc (own := [("sign", 1)]) (by rfl) sc_is_name.nd (pi_str (pv 0)) (blkOk_by (own := [("sign", 1)]) (N := ["thing", "sign"]) (sc := defScope s_is_name) (scope := ({ kind := .function, names := [(".0", .local), ("sign", .local)], isGenerator := false, isCoroutine := false } : Scope)) (by decide +kernel)) (fun _ _ _ _ _ => (pg_name (i := 1) sc_is_name.nd rfl (Or.inl rfl))) (fun _ _ _ _ _ => pts_nil) (fun _ _ _ _ _ => (pe_chain op_le_str op_le_str pe_str (pv 1) pe_str))) pa_nil))))), ?_⟩
  walk_at "r"
  refine Jv.d_isStr hx ?_
  have hx2 := hx
  cases hx2 with
  | str z =>
    have fz := fw z rfl
    have q2 : ∀ H', Same H H' → Q (.bl (nameS z)) H' := q
    walk_at "r"
    refine ⟨z, rfl, Jv.small_of fz, ?_⟩
    walk_at "r"
    refine Jv.r_dec (fun h1 => ?_) (fun h1 => ?_)
    · walk_at "r"
      refine Jv.r_ndec (fun h2 => ?_) (fun h2 => ?_)
      · have e : nameS z = false := by unfold nameS; rw [decide_eq_false (p := z.length ≤ 8) (by omega), Bool.and_false]; rfl
        rw [e] at q2
        walk_at "r"
        exact q2 _ (Same.refl _)
      · have e : nameS z = z.cps.toList.all letter := by unfold nameS; rw [decide_eq_true (p := z.length ≤ 8) (by omega), decide_eq_true (p := 1 ≤ z.length) (by omega)]; rfl
        rw [e] at q2
        walk_at "r"
        refine Jv.lcStr (i := 0) rfl letter fz (fun c H1 s1 P hP => ?_) (fun D H1 s1 hD eD => ?_)
        · walk_at "r"
          refine ⟨_, _, rfl, rfl, ?_⟩
          rw [lower_ok]
          walk_at "r"
          unfold letter at hP
          refine Jv.r_dec (fun h3 => ?_) (fun h3 => ?_)
          · rw [decide_eq_true h3, Bool.true_and] at hP
            walk_at "r"
            refine ⟨_, _, rfl, rfl, ?_⟩
            rw [upper_ok]; exact hP
          · rw [decide_eq_false h3, Bool.false_and] at hP
            exact hP
        · walk_at "r"
          refine ⟨D, z.cps.toList.map letter, rfl, Jv.sqL_at (by rw [List.map_map]; exact eD), ?_⟩
          rw [List.all_map]
          exact q2 _ s1
    · have e : nameS z = false := by unfold nameS; rw [decide_eq_false (p := 1 ≤ z.length) (by omega), Bool.false_and]; rfl
      rw [e] at q2
      walk_at "r"
      exact q2 _ (Same.refl _)
  | _ =>
    walk_at "r"
    exact q _ (Same.refl _)
theorem ok_is_test (T : Tx) (O : Ok K mg T) : FnOk P w K mg base CX0 2 T.f_is_test T.d_is_test ["thing"] (sp_is_test K) := by
  refine O.F_is_test.ok sc_is_test (fun vs H Q E h => by obtain ⟨_, _, rfl, _⟩ := h; rfl) (fun cdv A outer s H vs Q E hr h => ?_)
  obtain ⟨x, d, rfl, hx, fw, q⟩ := h
  refine ⟨_, (pss_cons (ps_if (PW.pt (pw_or (pt_not (pt_val (pe_call (ok_is_sequence T O) (hr.mono (by decide)) (by rfl) O.m_is_sequence O.F_is_sequence.kp O.b_is_sequence .nil pass0 (pa_cons (pv 0) pa_nil)))) (pw_or1 (pt_cmpR op_ne (pe_callB (r := Jv.rLenK K) Jv.cr_len (by rfl) O.z_len (by decide +kernel) (pa_cons (pv 0) pa_nil)) pe_int (nomark _))))) (pss_one (ps_ret pe_bl)) pss_nil)
  (pss_cons (ps_asg (pv 0) (Jv.pgOr (show PG _ _ (gLst K 3 _) from pg_lst rfl (pgs_cons (pg_name (i := 1) sc_is_test.nd rfl (Or.inl rfl)) (pgs_cons (pg_name (i := 2) sc_is_test.nd rfl (Or.inl rfl)) (pgs_cons (pg_name (i := 3) sc_is_test.nd rfl (Or.inl rfl)) pgs_nil)))) (show PG _ _ (gTup K 3 _) from pg_tup rfl (pgs_cons (pg_name (i := 1) sc_is_test.nd rfl (Or.inl rfl)) (pgs_cons (pg_name (i := 2) sc_is_test.nd rfl (Or.inl rfl)) (pgs_cons (pg_name (i := 3) sc_is_test.nd rfl (Or.inl rfl)) pgs_nil))))))
  (pss_one (ps_ret (pe_and (pe_call (ok_is_name T O) (hr.mono (by decide)) (by rfl) O.m_is_name O.F_is_name.kp O.b_is_name .nil pass0 (pa_cons (pv 1) pa_nil)) (pe_and (pe_call (ok_is_whole T O) (hr.mono (by decide)) (by rfl) O.m_is_whole O.F_is_whole.kp O.b_is_whole .nil pass0 (pa_cons (pv 2) (pa_cons pe_int (pa_cons (pe_glob (v := .int (40)) (by rfl) O.c_NUMBER_MOST ⟨_, rfl⟩) pa_nil)))) (pe_one (pe_call (ok_is_whole T O) (hr.mono (by decide)) (by rfl) O.m_is_whole O.F_is_whole.kp O.b_is_whole .nil pass0 (pa_cons (pv 3) (pa_cons (pv 2) (pa_cons (pe_glob (v := .int (40)) (by rfl) O.c_NUMBER_MOST ⟨_, rfl⟩) pa_nil))))))))))), ?_⟩
  walk_at "r"
  refine ⟨x, d, rfl, hx, fun H1 s1 => ?_⟩
  have hx1 := hx.same s1
  cases e : Jv.seqD d with
  | none =>
    have et : testD d = false := by unfold testD; rw [e]
    rw [et] at q
    walk_at "r"
    exact q _ s1
  | some es =>
    obtain ⟨xs, sk, al⟩ := hx1.sk e
    have l := al.len
    walk_at "r"
    refine sk.len ?_
    walk_at "r"
    refine Jv.r_ndecI (fun h3 => ?_) (fun h3 => ?_)
    · rw [test_no e (by omega)] at q
      walk_at "r"
      exact q _ s1
    · obtain ⟨m, lo, hi, rfl⟩ := len3 (es := es) (by omega)
      rw [test_yes e] at q
      have fw3 := (fw _ e).2
      cases al with
      | cons hm al =>
        cases al with
        | cons hlo al =>
          cases al with
          | cons hhi al =>
            cases al
            walk_at "r"
            refine Jv.Sk.unp sk rfl ?_
            walk_at "r"
            refine ⟨_, m, rfl, hm, fw3 m (by simp), fun H2 s2 => ?_⟩
            have s02 := s1.trans s2
            cases hn : nameD m with
            | false =>
              rw [hn] at q
              walk_at "r"
              exact q _ s02
            | true =>
              rw [hn, Bool.true_and] at q
              walk_at "r"
              refine ⟨_, lo, _, _, rfl, hlo.same s2, .inr ⟨_, rfl⟩, .inr ⟨_, rfl⟩, ?_⟩
              rw [hlo.whole]
              cases hw : Jv.wholeD lo (.int 0) (.int 40) with
              | false =>
                rw [hw] at q
                walk_at "r"
                exact q _ s02
              | true =>
                rw [hw, Bool.true_and] at q
                obtain ⟨i, rfl, i0, i1⟩ := Jv.wholeD_int hw
                cases hlo with
                | int =>
                  walk_at "r"
                  refine ⟨_, hi, _, _, rfl, hhi.same s2, .inr ⟨_, rfl⟩, .inr ⟨_, rfl⟩, ?_⟩
                  rw [hhi.whole]
                  exact q _ s02
theorem ok_are_tests (T : Tx) (O : Ok K mg T) : FnOk P w K mg base CX0 3 T.f_are_tests T.d_are_tests ["thing"] (sp_are_tests K) := by
  refine O.F_are_tests.ok sc_are_tests (fun vs H Q E h => by obtain ⟨_, _, rfl, _⟩ := h; rfl) (fun cdv A outer s H vs Q E hr h => ?_)
  obtain ⟨x, d, rfl, hx, fw, q⟩ := h
  refine ⟨_, (pss_one (ps_ret (pe_and (pe_call (ok_is_sequence T O) (hr.mono (by decide)) (by rfl) O.m_is_sequence O.F_is_sequence.kp O.b_is_sequence .nil pass0 (pa_cons (pv 0) pa_nil)) (pe_and (pe_cmpR op_le (pe_callB (r := Jv.rLenK K) Jv.cr_len (by rfl) O.z_len (by decide +kernel) (pa_cons (pv 0) pa_nil)) (pe_glob (v := .int (4)) (by rfl) O.c_TESTS_MOST ⟨_, rfl⟩) (nomark _)) (pe_one (pe_callB (r := rAll K) (cr_all rfl) (by rfl) O.z_all (by decide +kernel) (pa_cons (pe_lc (own := [("part", 1)]) (by rfl) sc_are_tests.nd (Jv.piOr (show PI _ _ _ (iList K _) from pi_list (pv 0)) (show PI _ _ _ (iTup K _) from pi_tup (pv 0))) (blkOk_by (own := [("part", 1)]) (N := ["thing", "part"]) (sc := defScope s_are_tests) (scope := ({ kind := .function, names := [(".0", .local), ("part", .local), ("is_test", .globalImplicit)], isGenerator := false, isCoroutine := false } : Scope)) (by decide +kernel)) (fun _ _ _ _ _ => (pg_name (i := 1) sc_are_tests.nd rfl (Or.inl rfl))) (fun _ _ _ _ _ => pts_nil) (fun _ _ _ _ _ => (pe_call (ok_is_test T O) (hr.mono (by decide)) (by rfl) O.m_is_test O.F_is_test.kp O.b_is_test .nil pass0 (pa_cons (pv 1) pa_nil)))) pa_nil))))))), ?_⟩
  walk_at "r"
  refine ⟨x, d, rfl, hx, fun H1 s1 => ?_⟩
  have hx1 := hx.same s1
  cases e : Jv.seqD d with
  | none =>
    have et : testsD d = false := by unfold testsD; rw [e]
    rw [et] at q
    walk_at "r"
    exact q _ s1
  | some es =>
    obtain ⟨xs, sk, al⟩ := hx1.sk e
    have l := al.len
    have et : testsD d = (decide (es.length ≤ 4) && es.all testD) := by unfold testsD; rw [e]
    rw [et] at q
    obtain ⟨f1, f2⟩ := fw _ e
    walk_at "r"
    refine sk.len ?_
    walk_at "r"
    refine Jv.r_dec (fun h4 => ?_) (fun h4 => ?_)
    · rw [decide_eq_true (show es.length ≤ 4 by omega), Bool.true_and] at q
      walk_at "r"
      refine Jv.lcS2 (i := 0) (j := 1) (N := []) rfl sk .nil (es.map fun d => .bool (testD d)) (by rw [List.length_map]; omega) (by omega) (fun i v e' D H2 hi hv he s2 hh hD P hP => ?_) (fun D ys H2 s2 hD eD dv _ => ?_)
      · obtain ⟨dd, hdd, dvd⟩ := al.at hv
        rw [List.getElem?_map, hdd] at he
        cases he
        walk_at "r"
        refine ⟨_, dd, rfl, dvd.same s2, f2 _ (List.mem_of_getElem? hdd), fun H3 s3 => ?_⟩
        exact hP _ _ s3 (.bl _)
      · walk_at "r"
        have : ys = (es.map testD).map V.bl := by
          rw [show (es.map fun d => PyData.bool (testD d)) = (es.map testD).map PyData.bool by rw [List.map_map]; rfl] at dv
          exact Jv.dv_bools dv
        subst this
        refine ⟨D, es.map testD, rfl, Jv.sqL_at eD, ?_⟩
        rw [List.all_map]
        exact q _ (s1.trans s2)
    · rw [decide_eq_false (show ¬ es.length ≤ 4 by omega), Bool.false_and] at q
      walk_at "r"
      exact q _ s1
def strD (z : Str) : PyData → Bool
  | .str y => decide (y = z)
  | _ => false
theorem eqv_str {d : PyData} {z : Str} : PyData.eqv d (.str z) = strD z d := by
  cases d with
  | str y => rw [PyData.eqv]; unfold strD; by_cases h : y = z <;> simp [h]
  | _ => simp [PyData.eqv, strD]
theorem ok_is_condition (T : Tx) (O : Ok K mg T) : FnOk P w K mg base CX0 2 T.f_is_condition T.d_is_condition ["thing"] (sp_is_condition K) := by
  refine O.F_is_condition.ok sc_is_condition (fun vs H Q E h => by obtain ⟨_, _, rfl, _⟩ := h; rfl) (fun cdv A outer s H vs Q E hr h => ?_)
  obtain ⟨x, d, rfl, hx, sh, q⟩ := h
  refine ⟨_, (pss_one (ps_ret (pe_or (pe_cmpR op_isN (pv 0) pe_non (nomark _)) (pe_or (pe_cmpR (r := rEqD K) (op_eqD hr.units) (pv 0) (pe_glob (v := .str "none") (by rfl) O.c_NONE ⟨_, rfl⟩) (nomark _)) (pe_one (pe_call (ok_is_whole T O) (hr.mono (by decide)) (by rfl) O.m_is_whole O.F_is_whole.kp O.b_is_whole .nil pass0 (pa_cons (pv 0) (pa_cons pe_int (pa_cons (pe_glob (v := .int (6)) (by rfl) O.c_LADDER_MOST ⟨_, rfl⟩) pa_nil))))))))), ?_⟩
  walk_at "r"
  have key : d ≠ .none → (∃ z, d = .str z) ∨ ((∀ z, d ≠ .str z) ∧ condD d = Jv.wholeD d (.int 0) (.int 6)) := fun n => by
    cases d with
    | none => exact absurd rfl n
    | str z => exact .inl ⟨z, rfl⟩
    | _ => exact .inr ⟨(fun z e => by cases e), rfl⟩
  by_cases hn : d = .none
  · subst hn
    cases hx
    walk_at "r"
    exact q
  · have hx0 : x ≠ .non := fun e => by subst e; cases hx; exact hn rfl
    rw [decide_eq_false hx0]
    walk_at "r"
    refine ⟨d, .str (Str.ofString "none"), hx.dp, (Jv.Dv.str _).dp, sh, by decide +kernel, ?_⟩
    rw [eqv_str]
    rcases key hn with ⟨z, rfl⟩ | ⟨h1, h2⟩
    · refine ⟨_, rfl, ?_⟩
      rw [show strD (Str.ofString "none") (.str z) = decide (z = Str.ofString "none") from rfl]
      by_cases hz : z = Str.ofString "none"
      · rw [decide_eq_true hz, if_pos rfl]
        rw [show condD (.str z) = true from decide_eq_true hz] at q
        exact q
      · rw [decide_eq_false hz, if_neg Bool.false_ne_true]
        rw [show condD (.str z) = false from decide_eq_false hz] at q
        walk_at "r"
        refine ⟨_, .str z, _, _, rfl, hx, .inr ⟨_, rfl⟩, .inr ⟨_, rfl⟩, ?_⟩
        rw [hx.whole]
        exact q
    · have e : strD (Str.ofString "none") d = false := by
        cases d with
        | str z => exact absurd rfl (h1 z)
        | _ => rfl
      rw [h2] at q
      refine ⟨_, rfl, ?_⟩
      rw [e, if_neg Bool.false_ne_true]
      walk_at "r"
      refine ⟨_, d, _, _, rfl, hx, .inr ⟨_, rfl⟩, .inr ⟨_, rfl⟩, ?_⟩
      rw [hx.whole]
      exact q
end
end K17

namespace Jv
open PySem PySem.Spec PyProof.Rows L2
section
variable {K : PySem.W.Frag} {H H1 : Hp} {D : Addr}
theorem hide_upd_ne {N : List Addr} {a : Addr} {o : HO} (n : a ∉ N) : hide N (upd H a o) = upd (hide N H) a o := by
  funext b
  by_cases h : b = a
  · subst h
    rw [upd_same]
    unfold hide
    rw [if_neg n, upd_same]
  · rw [upd_ne h]
    unfold hide
    by_cases m : b ∈ N
    · rw [if_pos m, if_pos m]
    · rw [if_neg m, if_neg m, upd_ne h]
/-- tuple(x), x a list or a tuple from before D -/
theorem tupN {N : List Addr} {v : V} {e : PyData} {zs : List PyData} (hv : Dv K (hide N H) v e) (he : seqD e = some zs) (s : Same H H1) (n : H D = none) (hh : Held (D :: N) H1) {P : VK} (q : ∀ y H2, Same H1 H2 → Dv K (hide (D :: N) H2) y (.tuple zs) → P y H2) : rTupOf K [v] H1 P := by
  have hm : Same (hide N H) (hide (D :: N) H1) := hide_more s n
  cases hv with
  | lst h al =>
    cases he
    refine r_tupOfL (sqL_at (s _ _ (hide_le _ _ h))) fun l hl => q _ _ (same_new hl) (dv_new hl hh (al.same hm))
  | tup h al =>
    cases he
    exact r_tupOfT (Jv.Same.sqT s (Jv.Same.sqT hide_le h)) (q _ _ (Same.refl _) (.tup (Jv.Same.sqT hm h) (al.same hm)))
  | _ => cases he
end
end Jv
namespace K17
open PySem PySem.Spec PyProof.Rows L2
/-! ### a rule, made -/
def noneD : PyData → Bool
  | .none => true
  | _ => false
theorem isN {K : PySem.W.Frag} {H : Hp} {x : V} {d : PyData} (h : Jv.Dv K H x d) : decide (x = V.non) = noneD d := by
  cases h <;> rfl
def oS : Option Str → V
  | none => .non
  | some z => .str z
def faultW (d0 d1 d2 d3 d4 : PyData) : Option Str :=
  if Jv.wholeD d0 (.int 0) (.int 6) = false then some "word" else if testsD d1 = false then some "tests" else
  if condD d2 = false then some "own" else if condD d3 = false then some "other" else if condD d4 = false then some "foe" else none
def faultB (d5 d6 d7 : PyData) : Option Str :=
  if Jv.wholeD d5 (.int 0) (.int 6) = false then some "low" else if (!noneD d6 && !Jv.wholeD d6 (loV d5) (.int 6)) = true then some "high" else
  if (!noneD d7 && !Jv.wholeD d7 (.int 0) (.int 1)) = true then some "side" else none
def sp_words_fault (K : PySem.W.Frag) : Sp := fun vs H Q _ => ∃ x0 x1 x2 x3 x4 d0 d1 d2 d3 d4, vs = [x0, x1, x2, x3, x4] ∧ Jv.Dv K H x0 d0 ∧ Jv.Dv K H x1 d1 ∧ fewTs d1 ∧ Jv.Dv K H x2 d2 ∧ SeqAt.shaped d2 = true ∧ Jv.Dv K H x3 d3 ∧ SeqAt.shaped d3 = true ∧
  Jv.Dv K H x4 d4 ∧ SeqAt.shaped d4 = true ∧ ∀ H', Same H H' → Q (oS (faultW d0 d1 d2 d3 d4)) H'
def sp_bounds_fault (K : PySem.W.Frag) : Sp := fun vs H Q _ => ∃ x5 x6 x7 d5 d6 d7, vs = [x5, x6, x7] ∧ Jv.Dv K H x5 d5 ∧ Jv.Dv K H x6 d6 ∧ Jv.Dv K H x7 d7 ∧ Q (oS (faultB d5 d6 d7)) H
section
variable {P : Program} {w : World} {K : PySem.W.Frag} {mg : Str → Option Value} {base : Heap}
theorem ok_bounds_fault (T : Tx) (O : Ok K mg T) : FnOk P w K mg base CX0 2 T.f_bounds_fault T.d_bounds_fault ["low", "high", "side"] (sp_bounds_fault K) := by
  refine O.F_bounds_fault.ok sc_bounds_fault (fun vs H Q E h => by obtain ⟨_, _, _, _, _, _, rfl, _⟩ := h; rfl) (fun cdv A outer s H vs Q E hr h => ?_)
  obtain ⟨x5, x6, x7, d5, d6, d7, rfl, h5, h6, h7, q⟩ := h
  refine ⟨_, (pss_cons (ps_if (pt_not (pt_val (pe_call (ok_is_whole T O) (hr.mono (by decide)) (by rfl) O.m_is_whole O.F_is_whole.kp O.b_is_whole .nil pass0 (pa_cons (pv 0) (pa_cons pe_int (pa_cons (pe_glob (v := .int (6)) (by rfl) O.c_LADDER_MOST ⟨_, rfl⟩) pa_nil)))))) (pss_one (ps_ret pe_str)) pss_nil)
  (pss_cons (ps_if (PW.pt (pw_and (pt_cmpR op_notN (pv 1) pe_non (nomark _)) (pw_and1 (pt_not (pt_val (pe_call (ok_is_whole T O) (hr.mono (by decide)) (by rfl) O.m_is_whole O.F_is_whole.kp O.b_is_whole .nil pass0 (pa_cons (pv 1) (pa_cons (pv 0) (pa_cons (pe_glob (v := .int (6)) (by rfl) O.c_LADDER_MOST ⟨_, rfl⟩) pa_nil))))))))) (pss_one (ps_ret pe_str)) pss_nil)
  (pss_cons (ps_if (PW.pt (pw_and (pt_cmpR op_notN (pv 2) pe_non (nomark _)) (pw_and1 (pt_not (pt_val (pe_call (ok_is_whole T O) (hr.mono (by decide)) (by rfl) O.m_is_whole O.F_is_whole.kp O.b_is_whole .nil pass0 (pa_cons (pv 2) (pa_cons (pe_glob (v := .int (0)) (by rfl) O.c_EAST ⟨_, rfl⟩) (pa_cons (pe_glob (v := .int (1)) (by rfl) O.c_WEST ⟨_, rfl⟩) pa_nil))))))))) (pss_one (ps_ret pe_str)) pss_nil)
  (pss_one (ps_ret pe_non))))), ?_⟩
  walk_at "r"
  refine ⟨_, d5, _, _, rfl, h5, .inr ⟨_, rfl⟩, .inr ⟨_, rfl⟩, ?_⟩
  rw [h5.whole]
  unfold faultB at q
  cases e5 : Jv.wholeD d5 (.int 0) (.int 6) with
  | false =>
    rw [e5, if_pos rfl] at q
    walk_at "r"
    exact q
  | true =>
    rw [e5, if_neg (by decide)] at q
    obtain ⟨i, rfl, i0, i1⟩ := Jv.wholeD_int e5
    cases h5
    walk_at "r"
    rw [isN h6]
    cases n6 : noneD d6 with
    | true =>
      rw [n6] at q
      walk_at "r"
      rw [isN h7]
      cases n7 : noneD d7 with
      | true =>
        rw [n7] at q
        walk_at "r"
        exact q
      | false =>
        rw [n7] at q
        walk_at "r"
        refine ⟨_, d7, _, _, rfl, h7, .inr ⟨_, rfl⟩, .inr ⟨_, rfl⟩, ?_⟩
        rw [h7.whole]
        cases e7 : Jv.wholeD d7 (.int 0) (.int 1) with
        | false =>
          rw [e7] at q
          walk_at "r"
          exact q
        | true =>
          rw [e7] at q
          walk_at "r"
          exact q
    | false =>
      rw [n6] at q
      walk_at "r"
      refine ⟨_, d6, _, _, rfl, h6, .inr ⟨_, rfl⟩, .inr ⟨_, rfl⟩, ?_⟩
      rw [h6.whole]
      cases e6 : Jv.wholeD d6 (.int i) (.int 6) with
      | false =>
        rw [show loV (.int i) = V.int i from rfl, e6] at q
        walk_at "r"
        exact q
      | true =>
        rw [show loV (.int i) = V.int i from rfl, e6] at q
        walk_at "r"
        rw [isN h7]
        cases n7 : noneD d7 with
        | true =>
          rw [n7] at q
          walk_at "r"
          exact q
        | false =>
          rw [n7] at q
          walk_at "r"
          refine ⟨_, d7, _, _, rfl, h7, .inr ⟨_, rfl⟩, .inr ⟨_, rfl⟩, ?_⟩
          rw [h7.whole]
          cases e7 : Jv.wholeD d7 (.int 0) (.int 1) with
          | false =>
            rw [e7] at q
            walk_at "r"
            exact q
          | true =>
            rw [e7] at q
            walk_at "r"
            exact q
theorem ok_words_fault (T : Tx) (O : Ok K mg T) : FnOk P w K mg base CX0 4 T.f_words_fault T.d_words_fault ["word", "tests", "own", "other", "foe"] (sp_words_fault K) := by
  refine O.F_words_fault.ok sc_words_fault (fun vs H Q E h => by obtain ⟨_, _, _, _, _, _, _, _, _, _, rfl, _⟩ := h; rfl) (fun cdv A outer s H vs Q E hr h => ?_)
  obtain ⟨x0, x1, x2, x3, x4, d0, d1, d2, d3, d4, rfl, h0, h1, f1, h2, g2, h3, g3, h4, g4, q⟩ := h
  refine ⟨_, (pss_cons (ps_if (pt_not (pt_val (pe_call (ok_is_whole T O) (hr.mono (by decide)) (by rfl) O.m_is_whole O.F_is_whole.kp O.b_is_whole .nil pass0 (pa_cons (pv 0) (pa_cons pe_int (pa_cons (pe_glob (v := .int (6)) (by rfl) O.c_LADDER_MOST ⟨_, rfl⟩) pa_nil)))))) (pss_one (ps_ret pe_str)) pss_nil)
  (pss_cons (ps_if (pt_not (pt_val (pe_call (ok_are_tests T O) (hr.mono (by decide)) (by rfl) O.m_are_tests O.F_are_tests.kp O.b_are_tests .nil pass0 (pa_cons (pv 1) pa_nil)))) (pss_one (ps_ret pe_str)) pss_nil)
  (pss_cons (ps_for PassesOwn.never rfl (show PI _ _ _ (iTup K _) from pi_tup (pe_tup (pa_cons (pe_tup (pa_cons pe_str (pa_cons (pv 2) pa_nil))) (pa_cons (pe_tup (pa_cons pe_str (pa_cons (pv 3) pa_nil))) (pa_cons (pe_tup (pa_cons pe_str (pa_cons (pv 4) pa_nil))) pa_nil))))) (pg_tup rfl (pgs_cons (pg_name (i := 5) sc_words_fault.nd rfl (Or.inl rfl)) (pgs_cons (pg_name (i := 6) sc_words_fault.nd rfl (Or.inl rfl)) pgs_nil))) (pss_one (ps_if (pt_not (pt_val (pe_call (ok_is_condition T O) (hr.mono (by decide)) (by rfl) O.m_is_condition O.F_is_condition.kp O.b_is_condition .nil pass0 (pa_cons (pv 6) pa_nil)))) (pss_one (ps_ret (pv 5))) pss_nil)))
  (pss_one (ps_ret pe_non))))), ?_⟩
  walk_at "r"
  refine ⟨_, d0, _, _, rfl, h0, .inr ⟨_, rfl⟩, .inr ⟨_, rfl⟩, ?_⟩
  rw [h0.whole]
  unfold faultW at q
  cases e0 : Jv.wholeD d0 (.int 0) (.int 6) with
  | false =>
    rw [e0, if_pos rfl] at q
    walk_at "r"
    exact q _ (Same.refl _)
  | true =>
    rw [e0, if_neg (by decide)] at q
    walk_at "r"
    refine ⟨_, d1, rfl, h1, f1, fun H1 s1 => ?_⟩
    cases e1 : testsD d1 with
    | false =>
      rw [e1, if_pos rfl] at q
      walk_at "r"
      exact q _ s1
    | true =>
      rw [e1, if_neg (by decide)] at q
      walk_at "r"
      intro p0 hp0
      walk_at "r"
      intro p1 hp1
      walk_at "r"
      intro p2 hp2
      walk_at "r"
      intro pt hpt
      have n10 : p1 ≠ p0 := fun e => by rw [e, upd_same] at hp1; cases hp1
      rw [upd_ne n10] at hp1
      have n21 : p2 ≠ p1 := fun e => by rw [e, upd_same] at hp2; cases hp2
      rw [upd_ne n21] at hp2
      have n20 : p2 ≠ p0 := fun e => by rw [e, upd_same] at hp2; cases hp2
      rw [upd_ne n20] at hp2
      have nt2 : pt ≠ p2 := fun e => by rw [e, upd_same] at hpt; cases hpt
      rw [upd_ne nt2] at hpt
      have nt1 : pt ≠ p1 := fun e => by rw [e, upd_same] at hpt; cases hpt
      rw [upd_ne nt1] at hpt
      have nt0 : pt ≠ p0 := fun e => by rw [e, upd_same] at hpt; cases hpt
      rw [upd_ne nt0] at hpt
      have s5 : Same H1 (upd (upd (upd (upd H1 p0 (.tup [.str "own", x2])) p1 (.tup [.str "other", x3])) p2 (.tup [.str "foe", x4])) pt (.tup [.ref p0, .ref p1, .ref p2])) := fun b o hb => by
        rw [upd_ne (ne_of_none hb hpt), upd_ne (ne_of_none hb hp2), upd_ne (ne_of_none hb hp1), upd_ne (ne_of_none hb hp0)]; exact hb
      have e0' : upd (upd (upd (upd H1 p0 (.tup [.str "own", x2])) p1 (.tup [.str "other", x3])) p2 (.tup [.str "foe", x4])) pt (.tup [.ref p0, .ref p1, .ref p2]) p0 = some (.tup [.str "own", x2]) := by
        rw [upd_ne nt0.symm, upd_ne n20.symm, upd_ne n10.symm, upd_same]
      have e1' : upd (upd (upd (upd H1 p0 (.tup [.str "own", x2])) p1 (.tup [.str "other", x3])) p2 (.tup [.str "foe", x4])) pt (.tup [.ref p0, .ref p1, .ref p2]) p1 = some (.tup [.str "other", x3]) := by
        rw [upd_ne nt1.symm, upd_ne n21.symm, upd_same]
      have e2' : upd (upd (upd (upd H1 p0 (.tup [.str "own", x2])) p1 (.tup [.str "other", x3])) p2 (.tup [.str "foe", x4])) pt (.tup [.ref p0, .ref p1, .ref p2]) p2 = some (.tup [.str "foe", x4]) := by
        rw [upd_ne nt2.symm, upd_same]
      have et' : upd (upd (upd (upd H1 p0 (.tup [.str "own", x2])) p1 (.tup [.str "other", x3])) p2 (.tup [.str "foe", x4])) pt (.tup [.ref p0, .ref p1, .ref p2]) pt = some (.tup [.ref p0, .ref p1, .ref p2]) := upd_same
      generalize upd (upd (upd (upd H1 p0 (.tup [.str "own", x2])) p1 (.tup [.str "other", x3])) p2 (.tup [.str "foe", x4])) pt (.tup [.ref p0, .ref p1, .ref p2]) = H5 at s5 e0' e1' e2' et'
      have s15 := s1.trans s5
      clear hp0 hp1 hp2 hpt
      walk_at "r"
      refine ⟨pt, rfl, ⟨_, Jv.sqT_at et'⟩, for_it (walk_tup (K := K) (a := pt) (xs := [.ref p0, .ref p1, .ref p2])) (fun j σ H' => ∃ y5 y6, σ = [some x0, some x1, some x2, some x3, some x4, y5, y6] ∧ H' = H5 ∧ (1 ≤ j → condD d2 = true) ∧ (2 ≤ j → condD d3 = true) ∧ (3 ≤ j → condD d4 = true)) ⟨_, _, rfl, rfl, fun h => by omega, fun h => by omega, fun h => by omega⟩ (fun j σ H' _ ⟨_, _, _, eh, _⟩ => by rw [eh]; exact Jv.sqT_at et') ?_ ?_⟩
      · rintro j x σ H6 H6' hj ⟨y5, y6, rfl, rfl, k2, k3, k4⟩ ⟨rfl, hx⟩
        match j, hx with
        | 0, hx =>
          cases hx
          refine Jv.r_gtup (Jv.sqT_at e0') rfl ?_
          walk_at "r"
          refine ⟨_, d2, rfl, h2.same s15, g2, ?_⟩
          cases ec : condD d2 with
          | false =>
            rw [if_pos ec] at q
            walk_at "r"
            exact q _ s15
          | true =>
            walk_at "r"
            exact ⟨_, _, rfl, rfl, fun _ => rfl, fun h => by omega, fun h => by omega⟩
        | 1, hx =>
          cases hx
          refine Jv.r_gtup (Jv.sqT_at e1') rfl ?_
          walk_at "r"
          refine ⟨_, d3, rfl, h3.same s15, g3, ?_⟩
          cases ec : condD d3 with
          | false =>
            rw [if_neg (by rw [k2 (by omega)]; decide)] at q
            rw [if_pos ec] at q
            walk_at "r"
            exact q _ s15
          | true =>
            walk_at "r"
            exact ⟨_, _, rfl, rfl, fun _ => k2 (by omega), fun _ => rfl, fun h => by omega⟩
        | 2, hx =>
          cases hx
          refine Jv.r_gtup (Jv.sqT_at e2') rfl ?_
          walk_at "r"
          refine ⟨_, d4, rfl, h4.same s15, g4, ?_⟩
          cases ec : condD d4 with
          | false =>
            rw [if_neg (by rw [k2 (by omega)]; decide)] at q
            rw [if_neg (by rw [k3 (by omega)]; decide)] at q
            rw [if_pos ec] at q
            walk_at "r"
            exact q _ s15
          | true =>
            walk_at "r"
            exact ⟨_, _, rfl, rfl, fun _ => k2 (by omega), fun _ => k3 (by omega), fun _ => rfl⟩
        | n + 3, hx => simp at hx
      · rintro σ H6 ⟨y5, y6, rfl, rfl, k2, k3, k4⟩
        have k2 := k2 (by simp)
        have k3 := k3 (by simp)
        have k4 := k4 (by simp)
        rw [if_neg (by rw [k2]; decide), if_neg (by rw [k3]; decide), if_neg (by rw [k4]; decide)] at q
        walk_at "r"
        exact q _ s15
end
end K17

namespace K17
open PySem PySem.Spec PyProof.Rows L2
/-! ### rules as they stand -/
def normT (d : PyData) : PyData := .tuple (((Jv.seqD d).getD []).map fun e => .tuple ((Jv.seqD e).getD []))
def faultR (d0 d1 d2 d3 d4 d5 d6 d7 : PyData) : Option Str := match faultW d0 d1 d2 d3 d4 with
  | some z => some z
  | none => faultB d5 d6 d7
def fR (v0 v1 v2 v3 v4 v5 v6 v7 : V) : List (Str × V) := [("word", v0), ("tests", v1), ("own", v2), ("other", v3), ("foe", v4), ("low", v5), ("high", v6), ("side", v7)]
def RAt (K : PySem.W.Frag) (H : Hp) (C a : Addr) (ds : List PyData) : Prop := ∃ dx v0 v1 v2 v3 v4 v5 v6 v7, H a = some (.ins C dx (fR v0 v1 v2 v3 v4 v5 v6 v7)) ∧ Jv.DvAll K H [v0, v1, v2, v3, v4, v5, v6, v7] ds
theorem RAt.same {K : PySem.W.Frag} {H H' : Hp} {C a : Addr} {ds : List PyData} (h : RAt K H C a ds) (s : Same H H') : RAt K H' C a ds := by
  obtain ⟨dx, v0, v1, v2, v3, v4, v5, v6, v7, e, al⟩ := h
  exact ⟨dx, v0, v1, v2, v3, v4, v5, v6, v7, s _ _ e, al.same s⟩
theorem tests_ok {d : PyData} (h : testsD d = true) : ∃ es, Jv.seqD d = some es ∧ es.length ≤ 4 ∧ ∀ e ∈ es, ∃ m lo hi, Jv.seqD e = some [m, lo, hi] := by
  unfold testsD at h
  cases e : Jv.seqD d with
  | none => rw [e] at h; cases h
  | some es =>
    rw [e] at h
    rw [Bool.and_eq_true] at h
    refine ⟨es, rfl, of_decide_eq_true h.1, fun x m => ?_⟩
    have ht := List.all_eq_true.mp h.2 x m
    cases ex : Jv.seqD x with
    | none => unfold testD at ht; rw [ex] at ht; cases ht
    | some zs =>
      by_cases l : zs.length = 3
      · obtain ⟨a, b, c, rfl⟩ := len3 l
        exact ⟨a, b, c, rfl⟩
      · rw [test_no ex l] at ht; cases ht
theorem faultW_none {d0 d1 d2 d3 d4 : PyData} (h : faultW d0 d1 d2 d3 d4 = none) : testsD d1 = true := by
  cases e : testsD d1 with
  | true => rfl
  | false =>
    unfold faultW at h
    rw [e] at h
    split at h
    · cases h
    · rw [if_pos rfl] at h; cases h
theorem raise_same {H : Hp} {a d : Addr} {x y z u : HO} (ha : H a = none) (hd : H d = none) : Same H (upd (del (upd (upd (upd H a x) d y) a z) a) d u) := fun b o hb => by
  have na := ne_of_none hb ha
  have nd := ne_of_none hb hd
  rw [upd_ne nd, del_ne na, upd_ne na, upd_ne nd, upd_ne na]
  exact hb
def sp_BadX_init (C : Addr) (f : Str) : Sp := fun vs H Q _ => ∃ a v, vs = [.ref a, v] ∧ H a = some (exo a C none) ∧ ∀ d, H d = none → d ≠ a → Q .non (upd (upd H d (exd d [(f, v)])) a (exo a C (some d)))
def sp_Rule_init (K : PySem.W.Frag) (C CB : Addr) : Sp := fun vs H Q E => ∃ a dx x0 x1 x2 x3 x4 x5 x6 x7 d0 d1 d2 d3 d4 d5 d6 d7 N, vs = [.ref a, x0, x1, x2, x3, x4, x5, x6, x7] ∧ H a = some (.ins C dx []) ∧ (∀ b ∈ N, ∃ ys, H b = some (.lst ys)) ∧ Jv.DvAll K (Jv.hide N H) [x0, x1, x2, x3, x4, x5, x6, x7] [d0, d1, d2, d3, d4, d5, d6, d7] ∧
  fewTs d1 ∧ SeqAt.shaped d2 = true ∧ SeqAt.shaped d3 = true ∧ SeqAt.shaped d4 = true ∧
  ((∃ z, faultR d0 d1 d2 d3 d4 d5 d6 d7 = some z ∧ ∀ e H', Same H H' → H' e = some (.xd [("what", .str z)]) → E (.ref CB) (some e) H') ∨
   (faultR d0 d1 d2 d3 d4 d5 d6 d7 = none ∧ ∀ H', Jv.Kp a H H' → RAt K (Jv.hide N H') C a [d0, normT d1, d2, d3, d4, d5, d6, d7] → Q .non H'))
section
variable {P : Program} {w : World} {K : PySem.W.Frag} {mg : Str → Option Value} {base : Heap}
theorem ok_BadRuleu_initu (T : Tx) (O : Ok K mg T) : FnOk P w K mg base CX0 1 T.f_BadRuleu_initu T.d_BadRuleu_initu ["self", "what"] (sp_BadX_init T.C_BadRule "what") := by
  refine O.F_BadRuleu_initu.ok sc_BadRuleu_initu (fun vs H Q E h => by obtain ⟨_, _, rfl, _⟩ := h; rfl) (fun cdv A outer s H vs Q E hr h => ?_)
  obtain ⟨a, v, rfl, ha, q⟩ := h
  refine ⟨_, (pss_one (ps_ost (pv 0) (pv 1))), ?_⟩
  exact ⟨_, rfl, _, rfl, a, T.C_BadRule, rfl, O.x_BadRule.o, O.n_BadRule_what, .inl ⟨ha, fun d hd ne => q d hd ne⟩⟩
theorem ok_Ruleu_initu (T : Tx) (O : Ok K mg T) : FnOk P w K mg base (L2.CX P w) 5 T.f_Ruleu_initu T.d_Ruleu_initu ["self", "word", "tests", "own", "other", "foe", "low", "high", "side"] (sp_Rule_init K T.C_Rule T.C_BadRule) := by
  refine FunD.ok O.F_Ruleu_initu sc_Ruleu_initu (fun vs H Q E h => by obtain ⟨_, _, _, _, _, _, _, _, _, _, _, _, _, _, _, _, _, _, _, rfl, _⟩ := h; rfl) (fun cdv A outer s H vs Q E hr h => ?_)
  obtain ⟨a, dx, x0, x1, x2, x3, x4, x5, x6, x7, d0, d1, d2, d3, d4, d5, d6, d7, N, rfl, ha, hN, alN, f1, g2, g3, g4, q⟩ := h
  have aN : a ∉ N := fun m => by obtain ⟨ys, e⟩ := hN a m; rw [ha] at e; cases e
  have al := alN.same Jv.hide_le
  obtain ⟨h0, h1, h2, h3, h4, h5, h6, h7⟩ : Jv.Dv K H x0 d0 ∧ Jv.Dv K H x1 d1 ∧ Jv.Dv K H x2 d2 ∧ Jv.Dv K H x3 d3 ∧ Jv.Dv K H x4 d4 ∧ Jv.Dv K H x5 d5 ∧ Jv.Dv K H x6 d6 ∧ Jv.Dv K H x7 d7 := by
    cases al with | cons a0 al => cases al with | cons a1 al => cases al with | cons a2 al => cases al with | cons a3 al => cases al with | cons a4 al => cases al with | cons a5 al => cases al with | cons a6 al => cases al with | cons a7 al => exact ⟨a0, a1, a2, a3, a4, a5, a6, a7⟩
  refine ⟨_, (pss_cons (ps_set (i := 9) sc_Ruleu_initu.nd rfl (Or.inl rfl) (pe_call (ok_words_fault T O) (hr.mono (by decide)) (by rfl) O.m_words_fault O.F_words_fault.kp O.b_words_fault .nil pass0 (pa_cons (pv 1) (pa_cons (pv 2) (pa_cons (pv 3) (pa_cons (pv 4) (pa_cons (pv 5) pa_nil)))))))
  (pss_cons (ps_if (pt_cmpR op_isN (pv 9) pe_non (nomark _)) (pss_one (ps_set (i := 9) sc_Ruleu_initu.nd rfl (Or.inl rfl) (pe_call (ok_bounds_fault T O) (hr.mono (by decide)) (by rfl) O.m_bounds_fault O.F_bounds_fault.kp O.b_bounds_fault .nil pass0 (pa_cons (pv 6) (pa_cons (pv 7) (pa_cons (pv 8) pa_nil)))))) pss_nil)
  (pss_cons (ps_if (pt_cmpR op_notN (pv 9) pe_non (nomark _)) (pss_one (ps_raise rfl (takes_of rfl rfl rfl rfl) (pmk_oex O.x_BadRule.o O.x_BadRule.n O.x_BadRule.y (ok_BadRuleu_initu T O) (hr.mono (by decide)) O.b_BadRuleu_initu .nil pass0 (by rfl) O.m_BadRule (pa_cons (pv 9) pa_nil)))) pss_nil)
  (pss_cons (ps_fld (pv 0) (pv 1) rfl)
  (pss_cons (ps_fld (pv 0) (pe_callTy (r := Jv.rTupOf K) call_tuple_of (by rfl) O.z_tuple (by decide +kernel) (pa_cons (pe_lc (own := [("test", 10)]) (by rfl) sc_Ruleu_initu.nd (Jv.piOr (show PI _ _ _ (iList K _) from pi_list (pv 2)) (show PI _ _ _ (iTup K _) from pi_tup (pv 2))) (blkOk_by (own := [("test", 10)]) (N := ["self", "word", "tests", "own", "other", "foe", "low", "high", "side", "what", "test"]) (sc := defScope s_Ruleu_initu) (scope := ({ kind := .function, names := [(".0", .local), ("test", .local), ("tuple", .globalImplicit)], isGenerator := false, isCoroutine := false } : Scope)) (by decide +kernel)) (fun _ _ _ _ _ => (pg_name (i := 10) sc_Ruleu_initu.nd rfl (Or.inl rfl))) (fun _ _ _ _ _ => pts_nil) (fun _ _ _ _ _ => (pe_callTy (r := Jv.rTupOf K) call_tuple_of (by rfl) O.z_tuple (by decide +kernel) (pa_cons (pv 10) pa_nil)))) pa_nil)) rfl)
  (pss_cons (ps_fld (pv 0) (pv 3) rfl)
  (pss_cons (ps_fld (pv 0) (pv 4) rfl)
  (pss_cons (ps_fld (pv 0) (pv 5) rfl)
  (pss_cons (ps_fld (pv 0) (pv 6) rfl)
  (pss_cons (ps_fld (pv 0) (pv 7) rfl)
  (pss_one (ps_fld (pv 0) (pv 8) rfl)))))))))))), ?_⟩
  walk_at "r"
  refine ⟨x0, x1, x2, x3, x4, d0, d1, d2, d3, d4, rfl, h0, h1, f1, h2, g2, h3, g3, h4, g4, fun H1 s1 => ?_⟩
  have rz : ∀ (z : Str) (Hx : Hp) (σ : L2.St), Same H Hx → faultR d0 d1 d2 d3 d4 d5 d6 d7 = some z → σ[9]? = some (some (.str z)) → tMkO T.C_BadRule (sp_BadX_init T.C_BadRule "what") [] (tCons (tVar 9) tNil) σ Hx (fun cls d H' => E cls d H') := fun z Hx σ sx hf hσ =>
    ⟨_, hσ, Nat.le_of_ble_eq_true rfl, fun a ha => ⟨a, _, rfl, upd_same, fun d hd ne => ⟨rfl, d, _, upd_same, by rw [upd_ne ne]; exact upd_same, by rw [upd_ne ne] at hd; exact hd, by
      rw [upd_ne ne] at hd
      rcases q with ⟨z2, hz2, q⟩ | ⟨hz2, _⟩
      · rw [hf] at hz2; cases hz2
        exact q d _ (sx.trans (raise_same ha hd)) upd_same
      · rw [hf] at hz2; cases hz2⟩⟩⟩
  cases ew : faultW d0 d1 d2 d3 d4 with
  | some z =>
    walk_at "r"
    exact rz z _ _ s1 (by unfold faultR; rw [ew]) rfl
  | none =>
    have er : faultR d0 d1 d2 d3 d4 d5 d6 d7 = faultB d5 d6 d7 := by unfold faultR; rw [ew]
    walk_at "r"
    refine ⟨x5, x6, x7, d5, d6, d7, rfl, h5.same s1, h6.same s1, h7.same s1, ?_⟩
    cases eb : faultB d5 d6 d7 with
    | some z =>
      walk_at "r"
      exact rz z _ _ s1 (by rw [er, eb]) rfl
    | none =>
      have ht := faultW_none ew
      obtain ⟨es, ee, el, e3⟩ := tests_ok ht
      have k : ∀ H', Jv.Kp a H H' → RAt K (Jv.hide N H') T.C_Rule a [d0, normT d1, d2, d3, d4, d5, d6, d7] → Q .non H' := by
        rcases q with ⟨z, hz, _⟩ | ⟨_, k⟩
        · rw [er, eb] at hz; cases hz
        · exact k
      have al1 := alN.same (Jv.hide_same s1)
      have hN1 : Jv.Held N H1 := fun b m => let ⟨ys, e⟩ := hN b m; ⟨_, s1 _ _ e⟩
      have hA1 := s1 _ _ ha
      have kp1 : Jv.Kp a H H1 := Jv.Kp.same s1
      clear q rz al alN ha h0 h1 h2 h3 h4 h5 h6 h7 s1
      walk_at "r"
      refine Jv.r_sfld ?_
      walk_at "r"
      refine ⟨a, _, dx, _, rfl, hA1, O.o_Rule, O.n_Rule_word, Nat.le_of_ble_eq_true rfl, ?_⟩
      have alH2 : Jv.DvAll K (Jv.hide N (upd H1 a (.ins T.C_Rule dx (putF "word" x0 [])))) [x0, x1, x2, x3, x4, x5, x6, x7] [d0, d1, d2, d3, d4, d5, d6, d7] := by
        rw [Jv.hide_upd_ne aN]; exact al1.ins (Jv.hide_at aN hA1)
      have kpH2 := kp1.trans (Jv.Kp.upd (H := H1) (o := .ins T.C_Rule dx (putF "word" x0 [])))
      have hAH2 : upd H1 a (.ins T.C_Rule dx (putF "word" x0 [])) a = some (.ins T.C_Rule dx [("word", x0)]) := upd_same
      have hNH2 : Jv.Held N (upd H1 a (.ins T.C_Rule dx (putF "word" x0 []))) := fun b m => let ⟨o, e⟩ := hN1 b m; ⟨o, by rw [upd_ne (show b ≠ a from fun z => aN (by rw [← z]; exact m))]; exact e⟩
      generalize upd H1 a (.ins T.C_Rule dx (putF "word" x0 [])) = H2 at alH2 kpH2 hAH2 hNH2 ⊢
      dsimp only
      have h1 : Jv.Dv K (Jv.hide N H2) x1 d1 := by
        cases alH2 with | cons _ al => cases al with | cons a1 _ => exact a1
      obtain ⟨xs, sk, alx⟩ := h1.sk ee
      have lx := alx.len
      refine Jv.r_sfld ?_
      walk_at "r"
      refine Jv.lcS2 (K := K) (i := 2) (j := 10) (N := N) rfl (sk.same Jv.hide_le) hNH2 (es.map fun e => .tuple ((Jv.seqD e).getD [])) (by rw [List.length_map]; omega) (by omega) (fun i v e D H3 hi hv he s3 hh hD PP hP => ?_) (fun D ys H3 s3 hD eD dv _ => ?_)
      · obtain ⟨dd, hdd, dvd⟩ := alx.at hv
        rw [List.getElem?_map, hdd] at he
        cases he
        obtain ⟨m, lo, hi', e3'⟩ := e3 dd (List.mem_of_getElem? hdd)
        walk_at "r"
        dsimp only at hP
        rw [e3'] at hP
        exact Jv.tupN dvd e3' s3 hD hh hP
      walk_at "r"
      refine Jv.r_tupOfL (Jv.sqL_at eD) fun t ht2 => ?_
      have s4 := s3.trans (Jv.same_new (u := .tup ys) ht2)
      have dt : Jv.Dv K (Jv.hide N (upd H3 t (.tup ys))) (.ref t) (normT d1) := by
        unfold normT
        rw [ee]; exact Jv.dv_new ht2 (hNH2.same s3) dv
      have alH4 : Jv.DvAll K (Jv.hide N (upd H3 t (.tup ys))) [x0, .ref t, x2, x3, x4, x5, x6, x7] [d0, normT d1, d2, d3, d4, d5, d6, d7] := by
        have q4 := alH2.same (Jv.hide_same s4)
        cases q4 with | cons a0 q4 => cases q4 with | cons a1 q4 => exact .cons a0 (.cons dt q4)
      have hAH4 := s4 _ _ hAH2
      have kpH4 := kpH2.trans (Jv.Kp.same s4)
      generalize upd H3 t (.tup ys) = H4 at alH4 hAH4 kpH4 ⊢
      clear dt s4 dv eD s3 sk alx h1 alH2 hAH2 kpH2 hNH2 hD ht2
      walk_at "r"
      refine ⟨a, _, dx, _, rfl, hAH4, O.o_Rule, O.n_Rule_tests, Nat.le_of_ble_eq_true rfl, ?_⟩
      have alH5 : Jv.DvAll K (Jv.hide N (upd H4 a (.ins T.C_Rule dx (putF "tests" (.ref t) [("word", x0)])))) [x0, .ref t, x2, x3, x4, x5, x6, x7] [d0, normT d1, d2, d3, d4, d5, d6, d7] := by
        rw [Jv.hide_upd_ne aN]; exact alH4.ins (Jv.hide_at aN hAH4)
      have kpH5 := kpH4.trans (Jv.Kp.upd (H := H4) (o := .ins T.C_Rule dx (putF "tests" (.ref t) [("word", x0)])))
      have hAH5 : upd H4 a (.ins T.C_Rule dx (putF "tests" (.ref t) [("word", x0)])) a = some (.ins T.C_Rule dx [("word", x0), ("tests", .ref t)]) := upd_same
      generalize upd H4 a (.ins T.C_Rule dx (putF "tests" (.ref t) [("word", x0)])) = H5 at alH5 kpH5 hAH5 ⊢
      dsimp only
      refine Jv.r_sfld ?_
      walk_at "r"
      refine ⟨a, _, dx, _, rfl, hAH5, O.o_Rule, O.n_Rule_own, Nat.le_of_ble_eq_true rfl, ?_⟩
      have alH6 : Jv.DvAll K (Jv.hide N (upd H5 a (.ins T.C_Rule dx (putF "own" x2 [("word", x0), ("tests", .ref t)])))) [x0, .ref t, x2, x3, x4, x5, x6, x7] [d0, normT d1, d2, d3, d4, d5, d6, d7] := by
        rw [Jv.hide_upd_ne aN]; exact alH5.ins (Jv.hide_at aN hAH5)
      have kpH6 := kpH5.trans (Jv.Kp.upd (H := H5) (o := .ins T.C_Rule dx (putF "own" x2 [("word", x0), ("tests", .ref t)])))
      have hAH6 : upd H5 a (.ins T.C_Rule dx (putF "own" x2 [("word", x0), ("tests", .ref t)])) a = some (.ins T.C_Rule dx [("word", x0), ("tests", .ref t), ("own", x2)]) := upd_same
      generalize upd H5 a (.ins T.C_Rule dx (putF "own" x2 [("word", x0), ("tests", .ref t)])) = H6 at alH6 kpH6 hAH6 ⊢
      dsimp only
      refine Jv.r_sfld ?_
      walk_at "r"
      refine ⟨a, _, dx, _, rfl, hAH6, O.o_Rule, O.n_Rule_other, Nat.le_of_ble_eq_true rfl, ?_⟩
      have alH7 : Jv.DvAll K (Jv.hide N (upd H6 a (.ins T.C_Rule dx (putF "other" x3 [("word", x0), ("tests", .ref t), ("own", x2)])))) [x0, .ref t, x2, x3, x4, x5, x6, x7] [d0, normT d1, d2, d3, d4, d5, d6, d7] := by
        rw [Jv.hide_upd_ne aN]; exact alH6.ins (Jv.hide_at aN hAH6)
      have kpH7 := kpH6.trans (Jv.Kp.upd (H := H6) (o := .ins T.C_Rule dx (putF "other" x3 [("word", x0), ("tests", .ref t), ("own", x2)])))
      have hAH7 : upd H6 a (.ins T.C_Rule dx (putF "other" x3 [("word", x0), ("tests", .ref t), ("own", x2)])) a = some (.ins T.C_Rule dx [("word", x0), ("tests", .ref t), ("own", x2), ("other", x3)]) := upd_same
      generalize upd H6 a (.ins T.C_Rule dx (putF "other" x3 [("word", x0), ("tests", .ref t), ("own", x2)])) = H7 at alH7 kpH7 hAH7 ⊢
      dsimp only
      refine Jv.r_sfld ?_
      walk_at "r"
      refine ⟨a, _, dx, _, rfl, hAH7, O.o_Rule, O.n_Rule_foe, Nat.le_of_ble_eq_true rfl, ?_⟩
      have alH8 : Jv.DvAll K (Jv.hide N (upd H7 a (.ins T.C_Rule dx (putF "foe" x4 [("word", x0), ("tests", .ref t), ("own", x2), ("other", x3)])))) [x0, .ref t, x2, x3, x4, x5, x6, x7] [d0, normT d1, d2, d3, d4, d5, d6, d7] := by
        rw [Jv.hide_upd_ne aN]; exact alH7.ins (Jv.hide_at aN hAH7)
      have kpH8 := kpH7.trans (Jv.Kp.upd (H := H7) (o := .ins T.C_Rule dx (putF "foe" x4 [("word", x0), ("tests", .ref t), ("own", x2), ("other", x3)])))
      have hAH8 : upd H7 a (.ins T.C_Rule dx (putF "foe" x4 [("word", x0), ("tests", .ref t), ("own", x2), ("other", x3)])) a = some (.ins T.C_Rule dx [("word", x0), ("tests", .ref t), ("own", x2), ("other", x3), ("foe", x4)]) := upd_same
      generalize upd H7 a (.ins T.C_Rule dx (putF "foe" x4 [("word", x0), ("tests", .ref t), ("own", x2), ("other", x3)])) = H8 at alH8 kpH8 hAH8 ⊢
      dsimp only
      refine Jv.r_sfld ?_
      walk_at "r"
      refine ⟨a, _, dx, _, rfl, hAH8, O.o_Rule, O.n_Rule_low, Nat.le_of_ble_eq_true rfl, ?_⟩
      have alH9 : Jv.DvAll K (Jv.hide N (upd H8 a (.ins T.C_Rule dx (putF "low" x5 [("word", x0), ("tests", .ref t), ("own", x2), ("other", x3), ("foe", x4)])))) [x0, .ref t, x2, x3, x4, x5, x6, x7] [d0, normT d1, d2, d3, d4, d5, d6, d7] := by
        rw [Jv.hide_upd_ne aN]; exact alH8.ins (Jv.hide_at aN hAH8)
      have kpH9 := kpH8.trans (Jv.Kp.upd (H := H8) (o := .ins T.C_Rule dx (putF "low" x5 [("word", x0), ("tests", .ref t), ("own", x2), ("other", x3), ("foe", x4)])))
      have hAH9 : upd H8 a (.ins T.C_Rule dx (putF "low" x5 [("word", x0), ("tests", .ref t), ("own", x2), ("other", x3), ("foe", x4)])) a = some (.ins T.C_Rule dx [("word", x0), ("tests", .ref t), ("own", x2), ("other", x3), ("foe", x4), ("low", x5)]) := upd_same
      generalize upd H8 a (.ins T.C_Rule dx (putF "low" x5 [("word", x0), ("tests", .ref t), ("own", x2), ("other", x3), ("foe", x4)])) = H9 at alH9 kpH9 hAH9 ⊢
      dsimp only
      refine Jv.r_sfld ?_
      walk_at "r"
      refine ⟨a, _, dx, _, rfl, hAH9, O.o_Rule, O.n_Rule_high, Nat.le_of_ble_eq_true rfl, ?_⟩
      have alH10 : Jv.DvAll K (Jv.hide N (upd H9 a (.ins T.C_Rule dx (putF "high" x6 [("word", x0), ("tests", .ref t), ("own", x2), ("other", x3), ("foe", x4), ("low", x5)])))) [x0, .ref t, x2, x3, x4, x5, x6, x7] [d0, normT d1, d2, d3, d4, d5, d6, d7] := by
        rw [Jv.hide_upd_ne aN]; exact alH9.ins (Jv.hide_at aN hAH9)
      have kpH10 := kpH9.trans (Jv.Kp.upd (H := H9) (o := .ins T.C_Rule dx (putF "high" x6 [("word", x0), ("tests", .ref t), ("own", x2), ("other", x3), ("foe", x4), ("low", x5)])))
      have hAH10 : upd H9 a (.ins T.C_Rule dx (putF "high" x6 [("word", x0), ("tests", .ref t), ("own", x2), ("other", x3), ("foe", x4), ("low", x5)])) a = some (.ins T.C_Rule dx [("word", x0), ("tests", .ref t), ("own", x2), ("other", x3), ("foe", x4), ("low", x5), ("high", x6)]) := upd_same
      generalize upd H9 a (.ins T.C_Rule dx (putF "high" x6 [("word", x0), ("tests", .ref t), ("own", x2), ("other", x3), ("foe", x4), ("low", x5)])) = H10 at alH10 kpH10 hAH10 ⊢
      dsimp only
      refine Jv.r_sfld ?_
      walk_at "r"
      refine ⟨a, _, dx, _, rfl, hAH10, O.o_Rule, O.n_Rule_side, Nat.le_of_ble_eq_true rfl, ?_⟩
      have alH11 : Jv.DvAll K (Jv.hide N (upd H10 a (.ins T.C_Rule dx (putF "side" x7 [("word", x0), ("tests", .ref t), ("own", x2), ("other", x3), ("foe", x4), ("low", x5), ("high", x6)])))) [x0, .ref t, x2, x3, x4, x5, x6, x7] [d0, normT d1, d2, d3, d4, d5, d6, d7] := by
        rw [Jv.hide_upd_ne aN]; exact alH10.ins (Jv.hide_at aN hAH10)
      have kpH11 := kpH10.trans (Jv.Kp.upd (H := H10) (o := .ins T.C_Rule dx (putF "side" x7 [("word", x0), ("tests", .ref t), ("own", x2), ("other", x3), ("foe", x4), ("low", x5), ("high", x6)])))
      have hAH11 : upd H10 a (.ins T.C_Rule dx (putF "side" x7 [("word", x0), ("tests", .ref t), ("own", x2), ("other", x3), ("foe", x4), ("low", x5), ("high", x6)])) a = some (.ins T.C_Rule dx [("word", x0), ("tests", .ref t), ("own", x2), ("other", x3), ("foe", x4), ("low", x5), ("high", x6), ("side", x7)]) := upd_same
      generalize upd H10 a (.ins T.C_Rule dx (putF "side" x7 [("word", x0), ("tests", .ref t), ("own", x2), ("other", x3), ("foe", x4), ("low", x5), ("high", x6)])) = H11 at alH11 kpH11 hAH11 ⊢
      exact k _ kpH11 ⟨dx, _, _, _, _, _, _, _, _, Jv.hide_at aN hAH11, alH11⟩
end
end K17

namespace K17
open PySem PySem.Spec PyProof.Rows L2
/-! ### rules compared, raised -/
def Shp (ds : List PyData) : Prop := ∀ d ∈ ds, SeqAt.shaped d = true
def sp_Rule_eq (K : PySem.W.Frag) (C : Addr) : Sp := fun vs H Q _ => ∃ a b ds, vs = [.ref a, .ref b] ∧ RAt K H C a ds ∧ Shp ds ∧
  ((∃ es, RAt K H C b es ∧ Shp es ∧ Q (.bl (PyData.eqvAll ds es)) H) ∨ (∃ ys, SqT K H b ys ∧ Q (.bl false) H))
theorem all8 {K : PySem.W.Frag} {H : Hp} {v0 v1 v2 v3 v4 v5 v6 v7 : V} {ds : List PyData} (al : Jv.DvAll K H [v0, v1, v2, v3, v4, v5, v6, v7] ds) : ∃ d0 d1 d2 d3 d4 d5 d6 d7, ds = [d0, d1, d2, d3, d4, d5, d6, d7] ∧
    Jv.Dv K H v0 d0 ∧ Jv.Dv K H v1 d1 ∧ Jv.Dv K H v2 d2 ∧ Jv.Dv K H v3 d3 ∧ Jv.Dv K H v4 d4 ∧ Jv.Dv K H v5 d5 ∧ Jv.Dv K H v6 d6 ∧ Jv.Dv K H v7 d7 := by
  cases al with | cons a0 al => cases al with | cons a1 al => cases al with | cons a2 al => cases al with | cons a3 al => cases al with | cons a4 al => cases al with | cons a5 al => cases al with | cons a6 al => cases al with | cons a7 al => cases al; exact ⟨_, _, _, _, _, _, _, _, rfl, a0, a1, a2, a3, a4, a5, a6, a7⟩
section
variable {P : Program} {w : World} {K : PySem.W.Frag} {mg : Str → Option Value} {base : Heap}
theorem ok_Ruleu_equ (T : Tx) (O : Ok K mg T) : FnOk P w K mg base CX0 1 T.f_Ruleu_equ T.d_Ruleu_equ ["self", "other"] (sp_Rule_eq K T.C_Rule) := by
  refine O.F_Ruleu_equ.ok sc_Ruleu_equ (fun vs H Q E h => by obtain ⟨_, _, _, rfl, _⟩ := h; rfl) (fun cdv A outer s H vs Q E hr h => ?_)
  obtain ⟨a, b, ds, rfl, ha, sa, qq⟩ := h
  refine ⟨_, (pss_one (ps_ret (pe_and (pe_callB (r := rIsi K) call_isi (by rfl) O.z_isinstance (by decide +kernel) (pa_cons (pv 1) (pa_cons (pe_glob (v := .ref _) (by rfl) O.m_Rule rfl) pa_nil))) (pe_and (pe_cmpR (r := rEqD K) (op_eqD hr.units) (show PE _ _ (tFld K _ _) from pe_fld (pv 0) rfl) (show PE _ _ (tFld K _ _) from pe_fld (pv 1) rfl) (nomark _)) (pe_and (pe_cmpR (r := rEqD K) (op_eqD hr.units) (show PE _ _ (tFld K _ _) from pe_fld (pv 0) rfl) (show PE _ _ (tFld K _ _) from pe_fld (pv 1) rfl) (nomark _)) (pe_and (pe_cmpR (r := rEqD K) (op_eqD hr.units) (show PE _ _ (tFld K _ _) from pe_fld (pv 0) rfl) (show PE _ _ (tFld K _ _) from pe_fld (pv 1) rfl) (nomark _)) (pe_and (pe_cmpR (r := rEqD K) (op_eqD hr.units) (show PE _ _ (tFld K _ _) from pe_fld (pv 0) rfl) (show PE _ _ (tFld K _ _) from pe_fld (pv 1) rfl) (nomark _)) (pe_and (pe_cmpR (r := rEqD K) (op_eqD hr.units) (show PE _ _ (tFld K _ _) from pe_fld (pv 0) rfl) (show PE _ _ (tFld K _ _) from pe_fld (pv 1) rfl) (nomark _)) (pe_and (pe_cmpR (r := rEqD K) (op_eqD hr.units) (show PE _ _ (tFld K _ _) from pe_fld (pv 0) rfl) (show PE _ _ (tFld K _ _) from pe_fld (pv 1) rfl) (nomark _)) (pe_and (pe_cmpR (r := rEqD K) (op_eqD hr.units) (show PE _ _ (tFld K _ _) from pe_fld (pv 0) rfl) (show PE _ _ (tFld K _ _) from pe_fld (pv 1) rfl) (nomark _)) (pe_one (pe_cmpR (r := rEqD K) (op_eqD hr.units) (show PE _ _ (tFld K _ _) from pe_fld (pv 0) rfl) (show PE _ _ (tFld K _ _) from pe_fld (pv 1) rfl) (nomark _))))))))))))), ?_⟩
  obtain ⟨dx, v0, v1, v2, v3, v4, v5, v6, v7, hA, al⟩ := id ha
  walk_at "r"
  rcases qq with ⟨es, hb, sb, k⟩ | ⟨ys, hb, k⟩
  · obtain ⟨dy, u0, u1, u2, u3, u4, u5, u6, u7, hB, bl⟩ := id hb
    refine ⟨_, _, _, _, true, rfl, .own T.C_Rule, .base (.ins hB O.o_Rule O.i_Rule_ca O.i_Rule_cn O.i_Rule_ct O.i_Rule_cm), by simp [PySem.W.kitOne], ?_⟩
    obtain ⟨d0, d1, d2, d3, d4, d5, d6, d7, rfl, a0, a1, a2, a3, a4, a5, a6, a7⟩ := all8 al
    obtain ⟨c0, c1, c2, c3, c4, c5, c6, c7, rfl, b0, b1, b2, b3, b4, b5, b6, b7⟩ := all8 bl
    simp only [PyData.eqvAll, Bool.and_true] at k
    walk_at "r"
    refine Jv.r_fld ?_
    walk_at "r"
    refine ⟨a, _, dx, _, _, rfl, hA, O.o_Rule, O.n_Rule_word, rfl, ?_⟩
    walk_at "r"
    refine Jv.r_fld ?_
    walk_at "r"
    refine ⟨b, _, dy, _, _, rfl, hB, O.o_Rule, O.n_Rule_word, rfl, ?_⟩
    walk_at "r"
    refine ⟨_, _, a0.dp, b0.dp, sa _ (by simp), sb _ (by simp), ?_⟩
    cases e0 : PyData.eqv d0 c0 with
    | false =>
      rw [e0, Bool.false_and] at k
      walk_at "r"
      exact k
    | true =>
    rw [e0, Bool.true_and] at k
    walk_at "r"
    refine Jv.r_fld ?_
    walk_at "r"
    refine ⟨a, _, dx, _, _, rfl, hA, O.o_Rule, O.n_Rule_tests, rfl, ?_⟩
    walk_at "r"
    refine Jv.r_fld ?_
    walk_at "r"
    refine ⟨b, _, dy, _, _, rfl, hB, O.o_Rule, O.n_Rule_tests, rfl, ?_⟩
    walk_at "r"
    refine ⟨_, _, a1.dp, b1.dp, sa _ (by simp), sb _ (by simp), ?_⟩
    cases e1 : PyData.eqv d1 c1 with
    | false =>
      rw [e1, Bool.false_and] at k
      walk_at "r"
      exact k
    | true =>
    rw [e1, Bool.true_and] at k
    walk_at "r"
    refine Jv.r_fld ?_
    walk_at "r"
    refine ⟨a, _, dx, _, _, rfl, hA, O.o_Rule, O.n_Rule_own, rfl, ?_⟩
    walk_at "r"
    refine Jv.r_fld ?_
    walk_at "r"
    refine ⟨b, _, dy, _, _, rfl, hB, O.o_Rule, O.n_Rule_own, rfl, ?_⟩
    walk_at "r"
    refine ⟨_, _, a2.dp, b2.dp, sa _ (by simp), sb _ (by simp), ?_⟩
    cases e2 : PyData.eqv d2 c2 with
    | false =>
      rw [e2, Bool.false_and] at k
      walk_at "r"
      exact k
    | true =>
    rw [e2, Bool.true_and] at k
    walk_at "r"
    refine Jv.r_fld ?_
    walk_at "r"
    refine ⟨a, _, dx, _, _, rfl, hA, O.o_Rule, O.n_Rule_other, rfl, ?_⟩
    walk_at "r"
    refine Jv.r_fld ?_
    walk_at "r"
    refine ⟨b, _, dy, _, _, rfl, hB, O.o_Rule, O.n_Rule_other, rfl, ?_⟩
    walk_at "r"
    refine ⟨_, _, a3.dp, b3.dp, sa _ (by simp), sb _ (by simp), ?_⟩
    cases e3 : PyData.eqv d3 c3 with
    | false =>
      rw [e3, Bool.false_and] at k
      walk_at "r"
      exact k
    | true =>
    rw [e3, Bool.true_and] at k
    walk_at "r"
    refine Jv.r_fld ?_
    walk_at "r"
    refine ⟨a, _, dx, _, _, rfl, hA, O.o_Rule, O.n_Rule_foe, rfl, ?_⟩
    walk_at "r"
    refine Jv.r_fld ?_
    walk_at "r"
    refine ⟨b, _, dy, _, _, rfl, hB, O.o_Rule, O.n_Rule_foe, rfl, ?_⟩
    walk_at "r"
    refine ⟨_, _, a4.dp, b4.dp, sa _ (by simp), sb _ (by simp), ?_⟩
    cases e4 : PyData.eqv d4 c4 with
    | false =>
      rw [e4, Bool.false_and] at k
      walk_at "r"
      exact k
    | true =>
    rw [e4, Bool.true_and] at k
    walk_at "r"
    refine Jv.r_fld ?_
    walk_at "r"
    refine ⟨a, _, dx, _, _, rfl, hA, O.o_Rule, O.n_Rule_low, rfl, ?_⟩
    walk_at "r"
    refine Jv.r_fld ?_
    walk_at "r"
    refine ⟨b, _, dy, _, _, rfl, hB, O.o_Rule, O.n_Rule_low, rfl, ?_⟩
    walk_at "r"
    refine ⟨_, _, a5.dp, b5.dp, sa _ (by simp), sb _ (by simp), ?_⟩
    cases e5 : PyData.eqv d5 c5 with
    | false =>
      rw [e5, Bool.false_and] at k
      walk_at "r"
      exact k
    | true =>
    rw [e5, Bool.true_and] at k
    walk_at "r"
    refine Jv.r_fld ?_
    walk_at "r"
    refine ⟨a, _, dx, _, _, rfl, hA, O.o_Rule, O.n_Rule_high, rfl, ?_⟩
    walk_at "r"
    refine Jv.r_fld ?_
    walk_at "r"
    refine ⟨b, _, dy, _, _, rfl, hB, O.o_Rule, O.n_Rule_high, rfl, ?_⟩
    walk_at "r"
    refine ⟨_, _, a6.dp, b6.dp, sa _ (by simp), sb _ (by simp), ?_⟩
    cases e6 : PyData.eqv d6 c6 with
    | false =>
      rw [e6, Bool.false_and] at k
      walk_at "r"
      exact k
    | true =>
    rw [e6, Bool.true_and] at k
    walk_at "r"
    refine Jv.r_fld ?_
    walk_at "r"
    refine ⟨a, _, dx, _, _, rfl, hA, O.o_Rule, O.n_Rule_side, rfl, ?_⟩
    walk_at "r"
    refine Jv.r_fld ?_
    walk_at "r"
    refine ⟨b, _, dy, _, _, rfl, hB, O.o_Rule, O.n_Rule_side, rfl, ?_⟩
    walk_at "r"
    refine ⟨_, _, a7.dp, b7.dp, sa _ (by simp), sb _ (by simp), ?_⟩
    exact k
  · refine ⟨_, _, _, _, false, rfl, .own T.C_Rule, Jv.tyT hb, O.i_Rule_kt, ?_⟩
    walk_at "r"
    exact k
end
end K17

namespace Jv
open PySem PySem.Spec PyProof.Rows L2
/-! ### what is made later -/
/-- H' without the lists that H has -/
def newer (H H' : Hp) : Hp := fun b => match H b with
  | some (.lst _) => none
  | _ => H' b
theorem DvAll.app {K : PySem.W.Frag} {H : Hp} : ∀ {vs ws : List V} {ds es : List PyData}, DvAll K H vs ds → DvAll K H ws es → DvAll K H (vs ++ ws) (ds ++ es)
  | _, _, _, _, .nil, q => q
  | _, _, _, _, .cons a b, q => .cons a (DvAll.app b q)
section
variable {K : PySem.W.Frag} {H H' H1 : Hp} {b : Addr} {o : HO} {N : List Addr}
theorem newer_le : Same (newer H H') H' := fun b o e => by
  unfold newer at e
  split at e
  · cases e
  · exact e
theorem newer_at (n : ∀ ys, H b ≠ some (.lst ys)) (e : H' b = some o) : newer H H' b = some o := by
  unfold newer
  split
  · rename_i ys h; exact (n ys h).elim
  · exact e
theorem newer_new (n : H b = none) (e : H' b = some o) : newer H H' b = some o := newer_at (fun ys h => by rw [n] at h; cases h) e
theorem newer_not (e : newer H H' b = some o) : (∀ ys, H b ≠ some (.lst ys)) ∧ H' b = some o := by
  refine ⟨fun ys h => ?_, newer_le b o e⟩
  unfold newer at e
  rw [h] at e; cases e
theorem newer_hide (hN : ∀ b ∈ N, ∃ ys, H b = some (.lst ys)) : Same (newer H H') (hide N H') := fun b o e => by
  obtain ⟨h1, h2⟩ := newer_not e
  exact hide_at (fun m => by obtain ⟨ys, h⟩ := hN b m; exact h1 ys h) h2
theorem newer_same (s : Same H' H1) : Same (newer H H') (newer H H1) := fun b o e => by
  obtain ⟨h1, h2⟩ := newer_not e
  exact newer_at h1 (s _ _ h2)
theorem newer_sub (hs : ∀ b ys, H b = some (.lst ys) → ∃ zs, H1 b = some (.lst zs)) : Same (newer H1 H') (newer H H') := fun b o e => by
  obtain ⟨h1, h2⟩ := newer_not e
  exact newer_at (fun ys h => by obtain ⟨zs, hz⟩ := hs b ys h; exact h1 zs hz) h2
end
end Jv
namespace Jv
open PySem PySem.Spec PyProof.Rows L2
/-! ### the hand beside data -/
section
variable {K : PySem.W.Frag} {H H' H1 : Hp} {p l b : Addr} {o : HO}
theorem Hand.ne2 (h : Hand H p l) (n : H b = none) : b ≠ p ∧ b ≠ l := by
  obtain ⟨ns, k, c, t, hA⟩ := h
  exact ⟨fun e => (by rw [e, hA.hp] at n; cases n), fun e => (by rw [e, hA.hl] at n; cases n)⟩
theorem Hand.upd (h : Hand H p l) (n1 : b ≠ p) (n2 : b ≠ l) : Hand (L2.upd H b o) p l := by
  obtain ⟨ns, k, c, t, hA⟩ := h
  exact ⟨ns, k, c, t, by rw [upd_ne n1.symm]; exact hA.hp, by rw [upd_ne n2.symm]; exact hA.hl, hA.nn, hA.few, hA.bd⟩
theorem Kp.free (k : Kp p H H') (h : Hand H' p l) (n : H' b = none) : H b = none := by
  cases e : H b with
  | none => rfl
  | some o =>
    obtain ⟨u, hu⟩ := h.at
    by_cases nb : b = p
    · rw [nb, hu] at n; cases n
    · rw [k b o nb e] at n; cases n
theorem Kp.hide (k : Kp p H H') : Same (Jv.hide [p] H) (Jv.hide [p] H') := fun b o e => by
  obtain ⟨n, e2⟩ := hide_some e
  exact hide_at n (k b o (fun h => n (by rw [h]; exact List.mem_singleton.mpr rfl)) e2)
theorem hide_one {p b : Addr} {o : HO} (n : b ≠ p) (h : H b = some o) : Jv.hide [p] H b = some o := hide_at (fun m => n (List.mem_singleton.mp m)) h
theorem Kp.hideM {N : List Addr} (k : Kp p H H') (m : p ∈ N) : Same (Jv.hide N H) (Jv.hide N H') := fun b o e => by
  obtain ⟨n, e2⟩ := hide_some e
  exact hide_at n (k b o (fun h => n (by rw [h]; exact m)) e2)
theorem Hand.lst (h : Hand H p l) : ∀ b ∈ [p], ∃ ys, H b = some (.lst ys) := fun b m => by
  rw [List.mem_singleton.mp m]
  obtain ⟨_, _, _, _, hA⟩ := h
  exact ⟨_, hA.hp⟩
theorem Hand.neTup {xs : List V} (h : Hand H p l) (e : H b = some (.tup xs)) : b ≠ p := fun z => by
  obtain ⟨_, _, _, _, hA⟩ := h
  rw [z, hA.hp] at e; cases e
theorem eqv_self {d : PyData} (h : SeqAt.shaped d = true) : PyData.eqv d d = true := SeqAt.eqv_refl d (SeqAt.canLay_of_shaped h)
theorem ne_self {Q : VK} {x y : V} {d : PyData} (hx : Jv.Dv K H x d) (hy : Jv.Dv K H y d) (h : SeqAt.shaped d = true) (q : Q (.bl false) H) : rNeD K x y H Q :=
  ⟨d, d, hx.dp, hy.dp, h, h, by rw [eqv_self h]; exact q⟩
theorem eq_self {Q : VK} {x y : V} {d : PyData} (hx : Jv.Dv K H x d) (hy : Jv.Dv K H y d) (h : SeqAt.shaped d = true) (q : Q (.bl true) H) : rEqD K x y H Q :=
  ⟨d, d, hx.dp, hy.dp, h, h, by rw [eqv_self h]; exact q⟩
theorem r_make0 {C : Addr} {sp : Sp} {dvs : List V} {E : XK} {t : TA} {σ : L2.St} {Q : VK} (h : t σ H fun vs H1 => ∀ x dx, H1 x = none → H1 dx = none → dx ≠ x →
  sp (.ref x :: (vs ++ dvs)) (L2.upd (L2.upd H1 dx (.own x)) x (.ins C dx [])) (fun v H2 => v = .non ∧ Q (.ref x) H2) E) : tMake C sp dvs E t σ H Q := h
theorem gen_make {C : Addr} {sp : Sp} {dvs : List V} {E : XK} {t : TA} {σ : L2.St} {Q : VK} (h : ∀ Q' : VK, (∀ v H, Q v H → Q' v H) → tMake C sp dvs E t σ H Q') : tMake C sp dvs E t σ H Q := h Q fun _ _ q => q
theorem r_methC {m : Str} {C : Addr} {sp : Sp} {dvs : List V} {E : L2.St → XK} {ta : TE} {t : TA} {σ : L2.St} {Q : VK} (h : ta σ H fun x H1 => ∃ a dx fs, x = .ref a ∧ H1 a = some (.ins C dx fs) ∧ fs.lookup m = none ∧ t σ H1 fun vs H2 => sp (x :: (vs ++ dvs)) H2 Q (E σ)) : Jv.tMethX C m sp dvs E ta t σ H Q := h
theorem r_makeC {C : Addr} {sp : Sp} {dvs : List V} {E : L2.St → XK} {t : TA} {σ : L2.St} {Q : VK} (h : t σ H fun vs H1 => ∀ x dx, H1 x = none → H1 dx = none → dx ≠ x →
  sp (.ref x :: (vs ++ dvs)) (L2.upd (L2.upd H1 dx (.own x)) x (.ins C dx [])) (fun v H2 => v = .non ∧ Q (.ref x) H2) (E σ)) : Jv.tMakeX C sp dvs E t σ H Q := h
/-- one of a list's elements -/
theorem pickH {H2 : Hp} {Q : VK} {t : Addr} {xs : List V} {ds : List PyData} {z : Int} (e : H t = some (.lst xs)) (al : Jv.DvAll K H2 xs ds) (z0 : 0 ≤ z) (z1 : z < xs.length) (k : ∀ v d, d ∈ ds → Jv.Dv K H2 v d → Q v H) : rIxL K (.ref t) (.int z) H Q := by
  have hz : z.toNat < xs.length := by omega
  obtain ⟨d, hd, dv⟩ := al.at (List.getElem?_eq_getElem hz)
  exact Jv.r_ixL (Jv.sqL_at e) (Jv.at_i z0 (List.getElem?_eq_getElem hz)) (k _ d (List.mem_of_getElem? hd) dv)
theorem shaped_word : SeqAt.shaped (.list [.str "bad"]) = true := by decide +kernel
end
end Jv
namespace K17
open PySem PySem.Spec PyProof.Rows L2
/-! ### the law's own things -/
def sp_Lwhole (K : PySem.W.Frag) : Sp := fun vs H Q _ => ∃ x d, vs = [x] ∧ Jv.Dv K H x d ∧ Q (.bl (Jv.intD d)) H
theorem inV_ints {z : Int} : ∀ {ns : List Int}, inV (.int z) (ns.map V.int) = decide (z ∈ ns)
  | [] => by simp [inV]
  | a :: r => by
    have ih := inV_ints (z := z) (ns := r)
    unfold inV at ih ⊢
    rw [List.map_cons, List.any_cons, ih]
    by_cases h : a = z
    · subst h; simp [eqV]
    · have h2 : ¬ z = a := fun e => h e.symm
      simp [eqV, h, h2]
theorem flat_ints (ns : List Int) : (ns.map V.int).all flatV = true := by
  rw [List.all_map, List.all_eq_true]; intro n _; rfl
section
variable {P : Program} {w : World} {K : PySem.W.Frag} {mg : Str → Option Value} {base : Heap}
theorem ok_Lwhole (T : Tx) (O : Ok K mg T) : FnOk P w K mg base CX0 1 T.f_Lwhole T.d_Lwhole ["_law_thing"] (sp_Lwhole K) := by
  refine O.F_Lwhole.ok sc_Lwhole (fun vs H Q E h => by obtain ⟨_, _, rfl, _⟩ := h; rfl) (fun cdv A outer s H vs Q E hr h => ?_)
  obtain ⟨x, d, rfl, hx, q⟩ := h
  refine ⟨_, (pss_one (ps_ret (pe_and (pe_callB (r := rIsi K) call_isi (by rfl) O.z_isinstance (by decide +kernel) (pa_cons (pv 0) (pa_cons (pe_bltn (v := .ty "int") (by rfl) O.z_int (by decide +kernel) rfl) pa_nil))) (pe_one (pe_not (pe_callB (r := rIsi K) call_isi (by rfl) O.z_isinstance (by decide +kernel) (pa_cons (pv 0) (pa_cons (pe_bltn (v := .ty "bool") (by rfl) O.z_bool (by decide +kernel) rfl) pa_nil)))))))), ?_⟩
  walk_at "r"
  cases hx <;> walk_at "r" <;> exact q
end
end K17

namespace Jv
open PySem PySem.Spec PyProof.Rows L2
section
variable {K : PySem.W.Frag} {σ : L2.St} {H : Hp} {te te0 : TE} {tt : TT} {Q : VK} {xs : List V} {es : List PyData} {j n : Nat} {N : List Addr}
/-- results that are data, over a new tuple -/
theorem lcDT (hit : ∀ P : VK, (∀ t H1, Same H H1 → SqT K H1 t xs → P (.ref t) H1) → te0 σ H P) (es : List PyData) (hl : es.length = xs.length) (few : xs.length ≤ 1000)
    (hs : ∀ i v e D H1, i < xs.length → xs[i]? = some v → es[i]? = some e → Same H H1 → ∀ P : VK, (∀ y H2, Same H1 H2 → Dv K (hide [D] H2) y e → P y H2) → te ((σ.set j none).set j (some v)) H1 P)
    (hd : ∀ D ys H1, Same H H1 → H1 D = some (.lst ys) → DvAll K H1 ys es → Q (.ref D) H1) : tLc (iTup K te0) (gName j) tYes te [j] σ H Q :=
  hit _ fun t H1 s1 sq => ⟨t, rfl, ⟨_, sq⟩, lcD walk_tup (fun _ s => Jv.Same.sqT s sq) yat .nil es hl few (fun i v e D H2 hi hv he s2 _ _ P hP => hs i v e D H2 hi hv he (s1.trans s2) P hP) fun D ys H2 s2 _ e al _ => hd D ys H2 (s1.trans s2) e (by rw [hide_nil] at al; exact al)⟩
theorem lcSL {i : Nat} {a : Addr} (hv : σ[i]? = some (some (.ref a))) (h : SqL K H a xs) (hN : Held N H) (es : List PyData) (hl : es.length = xs.length) (few : xs.length ≤ 1000)
    (hs : ∀ i v e D H1, i < xs.length → xs[i]? = some v → es[i]? = some e → Same H H1 → Held (D :: N) H1 → H D = none → ∀ P : VK, (∀ y H2, Same H1 H2 → Dv K (hide (D :: N) H2) y e → P y H2) → te ((σ.set j none).set j (some v)) H1 P)
    (hd : ∀ D ys H1, Same H H1 → H D = none → H1 D = some (.lst ys) → DvAll K (hide N H1) ys es → DvAll K (hide (D :: N) H1) ys es → Q (.ref D) H1) : tLc (iList K (tVar i)) (gName j) tYes te [j] σ H Q :=
  ⟨_, hv, a, rfl, ⟨xs, h⟩, lcD walk_list (fun H' s => s.seq h) yat hN es hl few hs hd⟩
theorem Dv.flat {H' : Hp} {v : V} {d : PyData} (h : Dv K H v d) (e : seqD d = none) : Dv K H' v d := by
  cases h with
  | non => exact .non
  | bl b => exact .bl b
  | int i => exact .int i
  | str z => exact .str z
  | lst _ _ => cases e
  | tup _ _ => cases e
end
end Jv
namespace K17
open PySem PySem.Spec PyProof.Rows L2
/-! ### good rules; raised -/
def Cnd (d : PyData) : Prop := d = .none ∨ d = .str (Str.ofString "none") ∨ ∃ i : Int, d = .int i ∧ 0 ≤ i ∧ i ≤ 6
structure GR (ds : List PyData) (w : Int) (d1 d2 d3 d4 : PyData) (lo : Int) (d6 d7 : PyData) : Prop where
  eq : ds = [.int w, d1, d2, d3, d4, .int lo, d6, d7]
  w6 : 0 ≤ w ∧ w ≤ 6
  t : testsD d1 = true
  tn : normT d1 = d1
  tf : fewTs d1
  ts : SeqAt.shaped d1 = true
  c2 : Cnd d2
  c3 : Cnd d3
  c4 : Cnd d4
  l6 : 0 ≤ lo ∧ lo ≤ 6
  hi : d6 = .none ∨ ∃ h : Int, d6 = .int h ∧ lo ≤ h ∧ h ≤ 6
  sd : d7 = .none ∨ d7 = .int 0 ∨ d7 = .int 1
def GRd (ds : List PyData) : Prop := ∃ w d1 d2 d3 d4 lo d6 d7, GR ds w d1 d2 d3 d4 lo d6 d7
theorem whole_in {i a b : Int} (h : a ≤ i) (h2 : i ≤ b) : Jv.wholeD (.int i) (.int a) (.int b) = true := by
  simp [Jv.wholeD, Jv.loOk, Jv.hiOk, h, h2]
theorem Cnd.ok {d : PyData} (h : Cnd d) : condD d = true := by
  rcases h with rfl | rfl | ⟨i, rfl, h0, h6⟩
  · rfl
  · decide +kernel
  · exact whole_in h0 h6
theorem Cnd.shaped {d : PyData} (h : Cnd d) : SeqAt.shaped d = true := by
  rcases h with rfl | rfl | ⟨i, rfl, h0, h6⟩
  · rfl
  · decide +kernel
  · simp [SeqAt.shaped, PyData.canLay0, PyData.depth]
theorem shaped_int (i : Int) : SeqAt.shaped (.int i) = true := by simp [SeqAt.shaped, PyData.canLay0, PyData.depth]
section
variable {ds : List PyData} {w lo : Int} {d1 d2 d3 d4 d6 d7 : PyData}
theorem GR.ok (h : GR ds w d1 d2 d3 d4 lo d6 d7) : faultR (.int w) d1 d2 d3 d4 (.int lo) d6 d7 = none := by
  have e1 : faultW (.int w) d1 d2 d3 d4 = none := by
    unfold faultW
    rw [whole_in h.w6.1 h.w6.2, h.t, h.c2.ok, h.c3.ok, h.c4.ok]; rfl
  unfold faultR
  rw [e1]
  show faultB _ _ _ = none
  unfold faultB
  rw [whole_in h.l6.1 h.l6.2, if_neg (by decide)]
  have e6 : (!noneD d6 && !Jv.wholeD d6 (loV (.int lo)) (.int 6)) = false := by
    rcases h.hi with rfl | ⟨x, rfl, a, b⟩
    · rfl
    · rw [show Jv.wholeD (.int x) (loV (.int lo)) (.int 6) = true from whole_in a b]; rfl
  have e7 : (!noneD d7 && !Jv.wholeD d7 (.int 0) (.int 1)) = false := by
    rcases h.sd with rfl | rfl | rfl <;> rfl
  rw [e6, e7]; rfl
theorem GR.shp (h : GR ds w d1 d2 d3 d4 lo d6 d7) : Shp ds := fun d m => by
  rw [h.eq] at m
  simp only [List.mem_cons, List.not_mem_nil, or_false] at m
  rcases m with rfl | rfl | rfl | rfl | rfl | rfl | rfl | rfl
  · exact shaped_int _
  · exact h.ts
  · exact h.c2.shaped
  · exact h.c3.shaped
  · exact h.c4.shaped
  · exact shaped_int _
  · rcases h.hi with rfl | ⟨x, rfl, _⟩
    · rfl
    · exact shaped_int _
  · rcases h.sd with rfl | rfl | rfl <;> rfl
end
def upD (b : Int) : PyData → PyData
  | .int i => if 1 ≤ i then .int (i + b) else .int i
  | d => d
def bigD (d : PyData) : Bool := Jv.wholeD d (.int 7) .non
def hiD (b : Int) : PyData → PyData
  | .int h => .int (if 6 < h + b then 6 else h + b)
  | d => d
def raiseD (b : Int) : List PyData → List PyData
  | [d0, d1, d2, d3, d4, d5, d6, d7] => [upD b d0, d1, upD b d2, upD b d3, upD b d4, upD b d5, hiD b d6, d7]
  | ds => ds
def bigAny (b : Int) : List PyData → Bool
  | [d0, _, d2, d3, d4, d5, _, _] => (([d0, d2, d3, d4, d5].map (upD b)).map bigD).any id
  | _ => false
theorem up_ge {b i : Int} (h : 1 ≤ i) : upD b (.int i) = .int (i + b) := by
  show (if 1 ≤ i then PyData.int (i + b) else .int i) = _
  rw [if_pos h]
theorem up_lt {b i : Int} (h : ¬ 1 ≤ i) : upD b (.int i) = .int i := by
  show (if 1 ≤ i then PyData.int (i + b) else .int i) = _
  rw [if_neg h]
theorem Cnd.flat {d : PyData} (h : Cnd d) : Jv.seqD d = none := by
  rcases h with rfl | rfl | ⟨i, rfl, _⟩ <;> rfl
theorem up_flat {b : Int} {d : PyData} (h : Jv.seqD d = none) : Jv.seqD (upD b d) = none := by
  cases d with
  | int i =>
    by_cases h1 : 1 ≤ i
    · rw [up_ge h1]; rfl
    · rw [up_lt h1]; rfl
  | _ => exact h
theorem up_cnd {b : Int} {d : PyData} (h : Cnd d) (hb : 0 ≤ b) (n : bigD (upD b d) = false) : Cnd (upD b d) := by
  rcases h with rfl | rfl | ⟨i, rfl, h0, h6⟩
  · exact .inl rfl
  · exact .inr (.inl rfl)
  · refine .inr (.inr ?_)
    by_cases h1 : 1 ≤ i
    · rw [up_ge h1] at n ⊢
      refine ⟨_, rfl, by omega, ?_⟩
      by_cases h7 : 7 ≤ i + b
      · have : bigD (.int (i + b)) = true := by unfold bigD; simp [Jv.wholeD, Jv.loOk, Jv.hiOk, h7]
        rw [this] at n; cases n
      · omega
    · rw [up_lt h1]
      exact ⟨i, rfl, h0, h6⟩
theorem up_int {b i : Int} (h : 0 ≤ i ∧ i ≤ 6) (hb : 0 ≤ b) (n : bigD (upD b (.int i)) = false) : ∃ j, upD b (.int i) = .int j ∧ 0 ≤ j ∧ j ≤ 6 ∧ (i = 0 → j = 0) ∧ (1 ≤ i → j = i + b) := by
  by_cases h1 : 1 ≤ i
  · rw [up_ge h1] at n ⊢
    refine ⟨_, rfl, by omega, ?_, by omega, fun _ => rfl⟩
    by_cases h7 : 7 ≤ i + b
    · have : bigD (.int (i + b)) = true := by unfold bigD; simp [Jv.wholeD, Jv.loOk, Jv.hiOk, h7]
      rw [this] at n; cases n
    · omega
  · rw [up_lt h1]
    exact ⟨i, rfl, h.1, h.2, fun e => e, fun e => absurd e h1⟩
theorem all5 {K : PySem.W.Frag} {H : Hp} {vs : List V} {d0 d1 d2 d3 d4 : PyData} (al : Jv.DvAll K H vs [d0, d1, d2, d3, d4]) : ∃ v0 v1 v2 v3 v4, vs = [v0, v1, v2, v3, v4] ∧ Jv.Dv K H v0 d0 ∧ Jv.Dv K H v1 d1 ∧ Jv.Dv K H v2 d2 ∧ Jv.Dv K H v3 d3 ∧ Jv.Dv K H v4 d4 := by
  cases al with | cons a0 al => cases al with | cons a1 al => cases al with | cons a2 al => cases al with | cons a3 al => cases al with | cons a4 al => cases al; exact ⟨_, _, _, _, _, rfl, a0, a1, a2, a3, a4⟩
theorem raise_good {b : Int} {ds : List PyData} (h : GRd ds) (hb : 0 ≤ b) (n : bigAny b ds = false) : GRd (raiseD b ds) := by
  obtain ⟨w, d1, d2, d3, d4, lo, d6, d7, h⟩ := h
  have e := h.eq
  subst e
  have n' : (((bigD (upD b (.int w)) || (bigD (upD b d2) || (bigD (upD b d3) || (bigD (upD b d4) || (bigD (upD b (.int lo)) || false)))))) = false) := n
  simp only [Bool.or_eq_false_iff] at n'
  obtain ⟨n0, n2, n3, n4, n5, _⟩ := n'
  obtain ⟨w', ew, w0, w6, _, _⟩ := up_int h.w6 hb n0
  obtain ⟨l', el, l0, l6, lz, lp⟩ := up_int h.l6 hb n5
  refine ⟨w', d1, upD b d2, upD b d3, upD b d4, l', hiD b d6, d7, ⟨by show [_, _, _, _, _, _, _, _] = _; rw [ew, el], ⟨w0, w6⟩, h.t, h.tn, h.tf, h.ts, up_cnd h.c2 hb n2, up_cnd h.c3 hb n3, up_cnd h.c4 hb n4, ⟨l0, l6⟩, ?_, h.sd⟩⟩
  have hl := h.l6
  rcases h.hi with rfl | ⟨x, rfl, a, c⟩
  · exact .inl rfl
  · refine .inr ⟨_, rfl, ?_, ?_⟩
    · by_cases h1 : 1 ≤ lo
      · have := lp h1
        split <;> omega
      · have := lz (by have := h.l6; omega)
        split <;> omega
    · split <;> omega
def sp_raised_number (K : PySem.W.Frag) : Sp := fun vs H Q _ => ∃ x d b, vs = [x, .int b] ∧ Jv.Dv K H x d ∧ ∀ v, Jv.Dv K H v (upD b d) → Q v H
def sp_Rule_raised (K : PySem.W.Frag) (C CR : Addr) : Sp := fun vs H Q E => ∃ a x dx ds, vs = [.ref a, x] ∧ RAt K H C a ds ∧ GRd ds ∧ Jv.Dv K H x dx ∧
  ((∃ b, dx = .int b ∧ 0 ≤ b ∧ b ≤ 6 ∧ bigAny b ds = false ∧ ∀ r H', Same H H' → H r = none → RAt K H' C r (raiseD b ds) → Q (.ref r) H') ∨
   ((Jv.wholeD dx (.int 0) (.int 6) = false ∨ ∃ b, dx = .int b ∧ 0 ≤ b ∧ b ≤ 6 ∧ bigAny b ds = true) ∧ ∀ H', Same H H' → E (.ref CR) none H'))
section
variable {P : Program} {w : World} {K : PySem.W.Frag} {mg : Str → Option Value} {base : Heap}
theorem ok_raised_number (T : Tx) (O : Ok K mg T) : FnOk P w K mg base CX0 2 T.f_raised_number T.d_raised_number ["thing", "by"] (sp_raised_number K) := by
  refine O.F_raised_number.ok sc_raised_number (fun vs H Q E h => by obtain ⟨_, _, _, rfl, _⟩ := h; rfl) (fun cdv A outer s H vs Q E hr h => ?_)
  obtain ⟨x, d, b, rfl, hx, q⟩ := h
  refine ⟨_, (pss_one (ps_ret (pe_ifExp (pt_val (pe_call (ok_is_whole T O) (hr.mono (by decide)) (by rfl) O.m_is_whole O.F_is_whole.kp O.b1_is_whole.2 O.b1_is_whole.1 pass0 (pa_cons (pv 0) (pa_cons pe_int pa_nil)))) (pe_op op_add (pv 0) (pv 1)) (pv 0)))), ?_⟩
  walk_at "r"
  refine ⟨x, d, _, _, rfl, hx, .inr ⟨_, rfl⟩, .inl rfl, ?_⟩
  rw [hx.whole]
  have hx2 := hx
  cases hx2 with
  | int i =>
    by_cases h1 : 1 ≤ i
    · have e : Jv.wholeD (.int i) (.int 1) .non = true := by simp [Jv.wholeD, Jv.loOk, Jv.hiOk, h1]
      rw [e]
      have q2 := q (.int (i + b)) (by rw [up_ge h1]; exact .int _)
      walk_at "r"
      exact q2
    · have e : Jv.wholeD (.int i) (.int 1) .non = false := by simp [Jv.wholeD, Jv.loOk, Jv.hiOk, h1]
      rw [e]
      have q2 := q (.int i) (by rw [up_lt h1]; exact .int _)
      walk_at "r"
      exact q2
  | _ =>
    have q2 := q _ hx
    walk_at "r"
    exact q2
theorem ok_Rule_raised (T : Tx) (O : Ok K mg T) : FnOk P w K mg base (L2.CX P w) 7 T.f_Rule_raised T.d_Rule_raised ["self", "by"] (sp_Rule_raised K T.C_Rule T.C_BadRaise) := by
  refine O.F_Rule_raised.okX sc_Rule_raised (fun vs H Q E h => by obtain ⟨_, _, _, _, rfl, _⟩ := h; rfl) (fun cdv A outer s H vs Q E hr h => ?_)
  obtain ⟨a, x, dx, ds, rfl, ha, hg, hx, q⟩ := h
  refine ⟨_, (pss_cons (ps_if (pt_not (pt_val (pe_call (ok_is_whole T O) (hr.mono (by decide)) (by rfl) O.m_is_whole O.F_is_whole.kp O.b_is_whole .nil pass0 (pa_cons (pv 1) (pa_cons pe_int (pa_cons (pe_glob (v := .int (6)) (by rfl) O.c_LADDER_MOST ⟨_, rfl⟩) pa_nil)))))) (pss_one (ps_raise rfl (takes_of rfl rfl rfl rfl) (Jv.pmk_own0 PySem.F.excBase_ValueError O.e_BadRaise.x O.m_BadRaise O.e_BadRaise.k (O.e_BadRaise.raises) (by rfl)))) pss_nil)
  (pss_cons (ps_setLc (i := 2) (own := [("part", 9)]) (by rfl) sc_Rule_raised.nd rfl rfl (sw_true rfl rfl rfl (by decide +kernel)) (show PI _ _ _ (iTup K _) from pi_tup (pe_tup (pa_cons (show PE _ _ (tFld K _ _) from pe_fld (pv 0) rfl) (pa_cons (show PE _ _ (tFld K _ _) from pe_fld (pv 0) rfl) (pa_cons (show PE _ _ (tFld K _ _) from pe_fld (pv 0) rfl) (pa_cons (show PE _ _ (tFld K _ _) from pe_fld (pv 0) rfl) (pa_cons (show PE _ _ (tFld K _ _) from pe_fld (pv 0) rfl) pa_nil))))))) (blkOk_by (own := [("part", 9)]) (N := ["self", "by", "numbers", "word", "own", "other", "foe", "low", "high", "part", "number"]) (sc := defScope s_Rule_raised) (scope := ({ kind := .function, names := [(".0", .local), ("part", .local), ("raised_number", .globalImplicit), ("by", .free)], isGenerator := false, isCoroutine := false } : Scope)) (by decide +kernel)) (fun _ _ _ _ _ => (pg_name (i := 9) sc_Rule_raised.nd rfl (Or.inl rfl))) (fun _ _ _ _ _ => pts_nil) (fun _ _ _ _ _ => (pe_call (ok_raised_number T O) (hr.mono (by decide)) (by rfl) O.m_raised_number O.F_raised_number.kp O.b_raised_number .nil pass0 (pa_cons (pv 9) (pa_cons (pv 1) pa_nil)))))
  (pss_cons (ps_if (pt_val (pe_callB (r := rAny K) (cr_any rfl) (by rfl) O.z_any (by decide +kernel) (pa_cons (pe_lc (own := [("number", 10)]) (by rfl) sc_Rule_raised.nd (show PI _ _ _ (iList K _) from pi_list (pv 2)) (blkOk_by (own := [("number", 10)]) (N := ["self", "by", "numbers", "word", "own", "other", "foe", "low", "high", "part", "number"]) (sc := defScope s_Rule_raised) (scope := ({ kind := .function, names := [(".0", .local), ("number", .local), ("is_whole", .globalImplicit), ("LADDER_MOST", .globalImplicit)], isGenerator := false, isCoroutine := false } : Scope)) (by decide +kernel)) (fun _ _ _ _ _ => (pg_name (i := 10) sc_Rule_raised.nd rfl (Or.inl rfl))) (fun _ _ _ _ _ => pts_nil) (fun _ _ _ _ _ => (pe_call (ok_is_whole T O) (hr.mono (by decide)) (by rfl) O.m_is_whole O.F_is_whole.kp O.b1_is_whole.2 O.b1_is_whole.1 pass0 (pa_cons (pv 10) (pa_cons (pe_op op_add (pe_glob (v := .int (6)) (by rfl) O.c_LADDER_MOST ⟨_, rfl⟩) pe_int) pa_nil))))) pa_nil))) (pss_one (ps_raise rfl (takes_of rfl rfl rfl rfl) (Jv.pmk_own0 PySem.F.excBase_ValueError O.e_BadRaise.x O.m_BadRaise O.e_BadRaise.k (O.e_BadRaise.raises) (by rfl)))) pss_nil)
  (pss_cons (ps_asg (pv 2) (show PG _ _ (gLst K 5 _) from pg_lst rfl (pgs_cons (pg_name (i := 3) sc_Rule_raised.nd rfl (Or.inl rfl)) (pgs_cons (pg_name (i := 4) sc_Rule_raised.nd rfl (Or.inl rfl)) (pgs_cons (pg_name (i := 5) sc_Rule_raised.nd rfl (Or.inl rfl)) (pgs_cons (pg_name (i := 6) sc_Rule_raised.nd rfl (Or.inl rfl)) (pgs_cons (pg_name (i := 7) sc_Rule_raised.nd rfl (Or.inl rfl)) pgs_nil)))))))
  (pss_cons (ps_set (i := 8) sc_Rule_raised.nd rfl (Or.inl rfl) (pe_ifExp (pt_cmpR op_isN (show PE _ _ (tFld K _ _) from pe_fld (pv 0) rfl) pe_non (nomark _)) pe_non (pe_callB (r := Jv.rMin2) (call_min2 rfl) (by rfl) O.z_min (by decide +kernel) (pa_cons (pe_op op_add (show PE _ _ (tFld K _ _) from pe_fld (pv 0) rfl) (pv 1)) (pa_cons (pe_glob (v := .int (6)) (by rfl) O.c_LADDER_MOST ⟨_, rfl⟩) pa_nil)))))
  (pss_one (ps_ret (Jv.pe_makeX O.k_Rule (ok_Ruleu_initu T O) (hr.mono (by decide)) (by rfl) O.m_Rule O.b_Ruleu_initu .nil (fun σ => passAt (takes_of rfl rfl rfl rfl) σ) (pa_cons (pv 3) (pa_cons (show PE _ _ (tFld K _ _) from pe_fld (pv 0) rfl) (pa_cons (pv 4) (pa_cons (pv 5) (pa_cons (pv 6) (pa_cons (pv 7) (pa_cons (pv 8) (pa_cons (show PE _ _ (tFld K _ _) from pe_fld (pv 0) rfl) pa_nil)))))))))))))))), ?_⟩
  walk_at "r"
  refine ⟨x, dx, _, _, rfl, hx, .inr ⟨_, rfl⟩, .inr ⟨_, rfl⟩, ?_⟩
  rw [hx.whole]
  cases ex : Jv.wholeD dx (.int 0) (.int 6) with
  | false =>
    walk_at "r"
    rcases q with ⟨b, rfl, b0, b6, _⟩ | ⟨_, k⟩
    · rw [whole_in b0 b6] at ex; cases ex
    · exact k _ (Same.refl _)
  | true =>
    obtain ⟨b, rfl, b0, b6⟩ := Jv.wholeD_int ex
    cases hx
    obtain ⟨dd, v0, v1, v2, v3, v4, v5, v6, v7, hA, al⟩ := id ha
    obtain ⟨d0, d1, d2, d3, d4, d5, d6, d7, rfl, h0, h1, h2, h3, h4, h5, h6, h7⟩ := all8 al
    walk_at "r"
    obtain ⟨w0, t1, c2, c3, c4, l5, t6, t7, gr⟩ := id hg
    have ge := gr.eq
    simp only [List.cons.injEq, and_true] at ge
    obtain ⟨rfl, rfl, rfl, rfl, rfl, rfl, rfl, rfl⟩ := ge
    have flat5 : ∀ d ∈ [PyData.int w0, d2, d3, d4, .int l5], Jv.seqD d = none := fun d m => by
      simp only [List.mem_cons, List.not_mem_nil, or_false] at m
      rcases m with rfl | rfl | rfl | rfl | rfl
      · rfl
      · exact gr.c2.flat
      · exact gr.c3.flat
      · exact gr.c4.flat
      · rfl
    have al5 : Jv.DvAll K H [v0, v2, v3, v4, v5] [PyData.int w0, d2, d3, d4, .int l5] := .cons h0 (.cons h2 (.cons h3 (.cons h4 (.cons h5 .nil))))
    refine Jv.lcDT (K := K) (j := 9) (xs := [v0, v2, v3, v4, v5]) (fun PP hP => ?_) ([PyData.int w0, d2, d3, d4, .int l5].map (upD b)) rfl (by simp) (fun i v e D H1 hi hv he s1 PP hP => ?_) (fun D ys H1 s1 eD dv => ?_)
    · walk_at "r"
      refine Jv.r_fld ?_
      walk_at "r"
      refine ⟨a, _, dd, _, _, rfl, hA, O.o_Rule, O.n_Rule_word, rfl, ?_⟩
      walk_at "r"
      refine Jv.r_fld ?_
      walk_at "r"
      refine ⟨a, _, dd, _, _, rfl, hA, O.o_Rule, O.n_Rule_own, rfl, ?_⟩
      walk_at "r"
      refine Jv.r_fld ?_
      walk_at "r"
      refine ⟨a, _, dd, _, _, rfl, hA, O.o_Rule, O.n_Rule_other, rfl, ?_⟩
      walk_at "r"
      refine Jv.r_fld ?_
      walk_at "r"
      refine ⟨a, _, dd, _, _, rfl, hA, O.o_Rule, O.n_Rule_foe, rfl, ?_⟩
      walk_at "r"
      refine Jv.r_fld ?_
      walk_at "r"
      refine ⟨a, _, dd, _, _, rfl, hA, O.o_Rule, O.n_Rule_low, rfl, ?_⟩
      walk_at "r"
      intro t ht
      exact hP t _ (Jv.same_new ht) (Jv.sqT_at upd_same)
    · obtain ⟨dv', hdv, dvv⟩ := al5.at hv
      rw [List.getElem?_map, hdv] at he
      cases he
      walk_at "r"
      refine ⟨v, dv', b, rfl, dvv.same s1, fun u hu => ?_⟩
      exact hP u _ (Same.refl _) (hu.flat (up_flat (flat5 _ (List.mem_of_getElem? hdv))))
    walk_at "r"
    refine Jv.lcSL (K := K) (i := 2) (j := 10) (N := []) rfl (Jv.sqL_at eD) .nil ((([PyData.int w0, d2, d3, d4, .int l5].map (upD b)).map bigD).map PyData.bool) (by rw [List.length_map, List.length_map, dv.len]) (by rw [dv.len]; simp) (fun i v e D2 H2 hi hv he s2 _ _ PP hP => ?_) (fun D2 zs H2 s2 hD2 eD2 dv2 _ => ?_)
    · obtain ⟨dv', hdv, dvv⟩ := dv.at hv
      rw [List.getElem?_map, List.getElem?_map, hdv] at he
      cases he
      walk_at "r"
      refine ⟨v, dv', _, _, rfl, dvv.same s2, .inr ⟨_, rfl⟩, .inl rfl, ?_⟩
      rw [dvv.whole]
      exact hP _ _ (Same.refl _) (.bl _)
    rw [Jv.hide_nil] at dv2
    rw [Jv.dv_bools dv2] at eD2
    walk_at "r"
    refine ⟨D2, _, rfl, Jv.sqL_at eD2, ?_⟩
    rw [show (([PyData.int w0, d2, d3, d4, .int l5].map (upD b)).map bigD).any id = bigAny b [PyData.int w0, d1, d2, d3, d4, .int l5, d6, d7] from rfl]
    have s02 := s1.trans s2
    cases eb : bigAny b [PyData.int w0, d1, d2, d3, d4, .int l5, d6, d7] with
    | true =>
      walk_at "r"
      rcases q with ⟨b', e, _, _, n, _⟩ | ⟨_, k⟩
      · cases e; rw [eb] at n; cases n
      · exact k _ s02
    | false =>
      have k : ∀ r H', Same H H' → H r = none → RAt K H' T.C_Rule r (raiseD b [PyData.int w0, d1, d2, d3, d4, .int l5, d6, d7]) → Q (.ref r) H' := by
        rcases q with ⟨b', e, _, _, n, k⟩ | ⟨h | ⟨b', e, _, _, n⟩, _⟩
        · cases e; exact k
        · rw [ex] at h; cases h
        · cases e; rw [eb] at n; cases n
      obtain ⟨w', u1, u2, u3, u4, l', u6, u7, gr2⟩ := raise_good hg b0 eb
      have er := gr2.eq
      simp only [raiseD, List.cons.injEq, and_true] at er
      have eD3 := s2 _ _ eD
      have dv3 := dv.same s2
      have hA2 := s02 _ _ hA
      clear q dv2 eD2 hD2
      obtain ⟨y0, y2, y3, y4, y5, rfl, z0, z2, z3, z4, z5⟩ := all5 (d0 := upD b (.int w0)) (d1 := upD b d2) (d2 := upD b d3) (d3 := upD b d4) (d4 := upD b (.int l5)) dv3
      walk_at "r"
      refine ⟨D, _, rfl, Jv.sqL_at eD3, rfl, ?_⟩
      walk_at "r"
      refine Jv.r_fld ?_
      walk_at "r"
      refine ⟨a, _, dd, _, _, rfl, hA2, O.o_Rule, O.n_Rule_high, rfl, ?_⟩
      walk_at "r"
      rw [isN h6]
      have fin : ∀ (u : V), Jv.Dv K H2 u (hiD b d6) → ∀ x dx, H2 x = none → H2 dx = none → dx ≠ x → sp_Rule_init K T.C_Rule T.C_BadRule [.ref x, y0, v1, y2, y3, y4, y5, u, v7] (L2.upd (L2.upd H2 dx (.own x)) x (.ins T.C_Rule dx [])) (fun v H3 => v = .non ∧ Q (.ref x) H3) E := fun u hu x dx hx hdx ne => by
        have sm : Same H2 (L2.upd (L2.upd H2 dx (.own x)) x (.ins T.C_Rule dx [])) := fun b o hb => by
          rw [upd_ne (ne_of_none hb hx), upd_ne (ne_of_none hb hdx)]; exact hb
        have s04 := s02.trans sm
        obtain ⟨e0, e1, e2, e3, e4, e5, e6, e7⟩ := er
        refine ⟨x, dx, _, _, _, _, _, _, _, _, _, _, _, _, _, _, _, _, [], rfl, upd_same, (fun b m => by cases m), (by rw [Jv.hide_nil]; exact .cons (z0.same sm) (.cons (h1.same s04) (.cons (z2.same sm) (.cons (z3.same sm) (.cons (z4.same sm) (.cons (z5.same sm) (.cons (hu.same sm) (.cons (h7.same s04) .nil)))))))), gr.tf, by rw [e2]; exact gr2.c2.shaped, by rw [e3]; exact gr2.c3.shaped, by rw [e4]; exact gr2.c4.shaped, .inr ⟨?_, fun H' kp ra => ⟨rfl, k x H' (fun b o hb => kp b o (ne_of_none (s02 _ _ hb) hx) (s04 _ _ hb)) ?_ ?_⟩⟩⟩
        · rw [e0, e2, e3, e4, e5, e6, e1, e7]; exact gr2.ok
        · cases hH : H x with
          | none => rfl
          | some o => rw [s02 _ _ hH] at hx; cases hx
        · rw [gr.tn, Jv.hide_nil] at ra
          exact ra
      rcases gr.hi with rfl | ⟨hx, rfl, _, _⟩
      · rw [show noneD .none = true from rfl]
        walk_at "r"
        refine Jv.r_makeC ?_
        walk_at "r"
        refine Jv.r_fld ?_
        walk_at "r"
        refine ⟨a, _, dd, _, _, rfl, hA2, O.o_Rule, O.n_Rule_tests, rfl, ?_⟩
        walk_at "r"
        refine Jv.r_fld ?_
        walk_at "r"
        refine ⟨a, _, dd, _, _, rfl, hA2, O.o_Rule, O.n_Rule_side, rfl, ?_⟩
        walk_at "r"
        exact fin .non .non
      · rw [show noneD (.int hx) = false from rfl]
        cases h6
        walk_at "r"
        refine Jv.r_fld ?_
        walk_at "r"
        refine ⟨a, _, dd, _, _, rfl, hA2, O.o_Rule, O.n_Rule_high, rfl, ?_⟩
        walk_at "r"
        refine Jv.r_makeC ?_
        walk_at "r"
        refine Jv.r_fld ?_
        walk_at "r"
        refine ⟨a, _, dd, _, _, rfl, hA2, O.o_Rule, O.n_Rule_tests, rfl, ?_⟩
        walk_at "r"
        refine Jv.r_fld ?_
        walk_at "r"
        refine ⟨a, _, dd, _, _, rfl, hA2, O.o_Rule, O.n_Rule_side, rfl, ?_⟩
        walk_at "r"
        exact fin _ (.int _)
end
end K17

namespace Jv
open PySem PySem.Spec PyProof.Rows L2
section
variable {K : PySem.W.Frag} {H : Hp} {p l : Addr}
theorem pick_es : ∀ {ys : List V} {R : Nat → PyData → Prop}, (∀ i y, ys[i]? = some y → ∃ e, Dv K H y e ∧ R i e) → ∃ es, DvAll K H ys es ∧ ∀ (i : Nat) e, es[i]? = some e → R i e
  | [], _, _ => ⟨[], .nil, fun i e h => by cases h⟩
  | y :: ys, R, h => by
    obtain ⟨e, h1, h2⟩ := h 0 y rfl
    obtain ⟨es, h3, h4⟩ := pick_es (ys := ys) (R := fun i e => R (i + 1) e) (fun i y hy => h (i + 1) y hy)
    refine ⟨e :: es, .cons h1 h3, fun i x hx => ?_⟩
    cases i with
    | zero => cases hx; exact h2
    | succ i => exact h4 i x hx
theorem hideKp {Hx : Hp} {D : Addr} (k : Kp p H Hx) (n : H D = none) : Same (hide [p] H) (hide [D, p] Hx) := fun b o e => by
  obtain ⟨h1, h2⟩ := hide_some e
  have nb : b ≠ p := fun z => h1 (by rw [z]; exact List.mem_singleton.mpr rfl)
  refine hide_at (fun m => ?_) (k b o nb h2)
  rcases List.mem_cons.mp m with z | z
  · rw [z, n] at h2; cases h2
  · exact nb (List.mem_singleton.mp z)
/-- a comprehension whose items draw -/
theorem lcKpW {σ : L2.St} {te : TE} {Q : VK} {j n : Nat} {J : It} {G : Hp → Prop} {Y : Nat → Hp → V → Hp → Prop} {F : Nat → V → Prop} (w : Walk J n G Y) (hG : ∀ H', Kp p H H' → Hand H' p l → G H') (hy : ∀ i H x H', i < n → Y i H x H' → H' = H ∧ F i x)
    (hh : Hand H p l) (few : n ≤ 900) (S : Hp → Nat → V → Prop) (hS : ∀ H H' i v, Same H H' → S H i v → S H' i v)
    (hs : ∀ i v D Hx, i < n → F i v → Kp p H Hx → Hand Hx p l → H D = none → D ≠ p → (∃ ys, Hx D = some (.lst ys)) → ∀ P : VK, (∀ y H2, Kp p Hx H2 → Hand H2 p l → S (hide [D, p] H2) i y → P y H2) → te ((σ.set j none).set j (some v)) Hx P)
    (hd : ∀ D ys H1, Kp p H H1 → Hand H1 p l → H D = none → D ≠ p → H1 D = some (.lst ys) → ys.length = n → (∀ i y, ys[i]? = some y → S (hide [D, p] H1) i y) → Q (.ref D) H1) : ∀ D, H D = none → ∃ W : Nat → Nat → Hp → Prop, (∃ m, W 0 m (upd H D (.lst []))) ∧ ∀ i m H, W i m H →
      (J.stop i H ∧ Q (.ref D) H) ∨ (J.go i H ∧ ∃ Nx : Hp → Prop, (∀ H', Nx H' → ∃ m', m' < m ∧ W (i + 1) m' H') ∧ ∀ x H', J.yld i H x H' → gName j x (wipe σ [j]) H' fun σ2 H2 => wipe σ2 [j] = wipe σ [j] ∧ tYes σ2 H2 fun b H3 =>
        if b = true then te σ2 H3 fun y H4 => ∃ acc, H4 D = some (.lst acc) ∧ acc.length < sizeLine ∧ Nx (upd H4 D (.lst (acc ++ [y]))) else Nx H3) := by
  intro D hD
  obtain ⟨nD, nl⟩ := hh.ne2 hD
  refine lc_it w (fun i H1 => Kp p H H1 ∧ Hand H1 p l ∧ ∃ ys, H1 D = some (.lst ys) ∧ ys.length = i ∧ ∀ k y, ys[k]? = some y → S (hide [D, p] H1) k y) ⟨Kp.new hD, hh.same (same_new hD), [], upd_same, rfl, fun k y h => by cases h⟩ (fun i H1 _ h => hG H1 h.1 h.2.1) ?_ ?_
  · rintro i x H1 H2 hi ⟨k1, h1, ys, e1, ln, al⟩ hx
    obtain ⟨rfl, hf⟩ := hy i _ _ _ hi hx
    refine ⟨wipe1, r_yes (r_ift ?_)⟩
    refine hs i x D H2 hi hf k1 h1 hD nD ⟨_, e1⟩ _ fun y H3 k3 h3 sy => ⟨ys, k3 _ _ nD e1, small_lt (by omega), fun b o nb hb => ?_, h3.upd nD nl, ys ++ [y], upd_same, by rw [List.length_append, ln]; rfl, fun k z hz => ?_⟩
    · rw [upd_ne (ne_of_none hb hD)]
      exact k3 _ _ nb (k1 _ _ nb hb)
    · rw [hide_upd]
      by_cases hk : k < ys.length
      · rw [List.getElem?_append_left hk] at hz
        exact hS _ _ _ _ (Kp.hideM k3 (by simp)) (al k z hz)
      · rw [List.getElem?_append_right (by omega)] at hz
        have hk0 : k - ys.length = 0 := by
          cases hq : k - ys.length with
          | zero => rfl
          | succ m => rw [hq] at hz; simp at hz
        rw [hk0] at hz
        cases hz
        have : k = i := by omega
        rw [this]; exact sy
  · rintro H1 ⟨k1, h1, ys, e1, ln, al⟩
    exact hd D ys H1 k1 h1 hD nD e1 ln al
theorem lcKpS {σ : L2.St} {te : TE} {Q : VK} {i j : Nat} {x : V} {xs : List V} (hv : σ[i]? = some (some x)) (h : Sk K (hide [p] H) x xs) (hh : Hand H p l) (few : xs.length ≤ 900) (S : Hp → Nat → V → Prop) (hS : ∀ H H' i v, Same H H' → S H i v → S H' i v)
    (hs : ∀ i v D Hx, i < xs.length → xs[i]? = some v → Kp p H Hx → Hand Hx p l → H D = none → D ≠ p → (∃ ys, Hx D = some (.lst ys)) → ∀ P : VK, (∀ y H2, Kp p Hx H2 → Hand H2 p l → S (hide [D, p] H2) i y → P y H2) → te ((σ.set j none).set j (some v)) Hx P)
    (hd : ∀ D ys H1, Kp p H H1 → Hand H1 p l → H D = none → D ≠ p → H1 D = some (.lst ys) → ys.length = xs.length → (∀ i y, ys[i]? = some y → S (hide [D, p] H1) i y) → Q (.ref D) H1) : tLc (fun σ H R => iList K (tVar i) σ H R ∨ iTup K (tVar i) σ H R) (gName j) tYes te [j] σ H Q := by
  obtain ⟨a, rfl, h | h⟩ := h
  · exact .inl ⟨_, hv, a, rfl, ⟨xs, hide_le.seq h⟩, lcKpW (walk_list (K := K) (a := a) (xs := xs)) (fun H' k _ => hide_le.seq ((Kp.hide k).seq h)) yat hh few S hS hs hd⟩
  · exact .inr ⟨_, hv, a, rfl, ⟨xs, Jv.Same.sqT hide_le h⟩, lcKpW (walk_tup (K := K) (a := a) (xs := xs)) (fun H' k _ => Jv.Same.sqT hide_le (Jv.Same.sqT (Kp.hide k) h)) yat hh few S hS hs hd⟩
end
end Jv
namespace K17
open PySem PySem.Spec PyProof.Rows L2
/-! ### picked, shaped, compared -/
def sp_Lpick : Sp := fun vs H Q _ => ∃ p l t xs, vs = [.ref p, .ref t] ∧ Jv.Hand H p l ∧ H t = some (.lst xs) ∧ t ≠ p ∧ (0 < xs.length ∧ xs.length ≤ 1000) ∧ ∀ (i : Nat) v H', xs[i]? = some v → Jv.Kp p H H' → Jv.Hand H' p l → Q v H'
def sp_Lshape (K : PySem.W.Frag) : Sp := fun vs H Q _ => ∃ p l x d ds N, vs = [.ref p, x] ∧ Jv.Hand H p l ∧ p ∈ N ∧ (∀ b ∈ N, ∃ ys, H b = some (.lst ys)) ∧ Jv.Dv K (Jv.hide N H) x d ∧ Jv.seqD d = some ds ∧
  ∀ v e H', Jv.Kp p H H' → Jv.Hand H' p l → Jv.seqD e = some ds → Jv.Dv K (Jv.hide N H') v e → Q v H'
def sp_Ldeep (K : PySem.W.Frag) : Sp := fun vs H Q _ => ∃ p l x d ds, vs = [.ref p, x] ∧ Jv.Hand H p l ∧ Jv.Dv K (Jv.hide [p] H) x d ∧ Jv.seqD d = some ds ∧ ds.length ≤ 100 ∧ (∀ e ∈ ds, (Jv.seqD e).isSome = true) ∧
  ∀ v e es H', Jv.Kp p H H' → Jv.Hand H' p l → Jv.seqD e = some es → es.map Jv.seqD = ds.map Jv.seqD → Jv.Dv K (Jv.hide [p] H') v e → Q v H'
def Pl : Nat → PyData → Prop
  | 0, d => Jv.seqD d = none ∧ Jv.boolD d = false
  | n + 1, d => (Jv.seqD d = none ∧ Jv.boolD d = false) ∨ ∃ ds, d = .tuple ds ∧ ds.length ≤ 100 ∧ ∀ e ∈ ds, Pl n e
def sp_Lsame (K : PySem.W.Frag) : Nat → Sp
  | 0 => fun _ _ _ _ => False
  | n + 1 => fun vs H Q _ => ∃ x y d, vs = [x, y] ∧ Pl n d ∧ Jv.Dv K H x d ∧ Jv.Dv K H y d ∧ ∀ H', Same H H' → Q (.bl true) H'
section
variable {P : Program} {w : World} {K : PySem.W.Frag} {mg : Str → Option Value} {base : Heap}
theorem ok_Lpick (T : Tx) (O : Ok K mg T) : FnOk P w K mg base CX0 3 T.f_Lpick T.d_Lpick ["_law_hand_here", "_law_things"] sp_Lpick := by
  refine O.F_Lpick.ok sc_Lpick (fun vs H Q E h => by obtain ⟨_, _, _, _, rfl, _⟩ := h; rfl) (fun cdv A outer s H vs Q E hr h => ?_)
  obtain ⟨p, l, t, xs, rfl, hh, ht, hne, ⟨h0, h1⟩, q⟩ := h
  refine ⟨_, (pss_one (ps_ret (pe_ix (r := rIxL K) ix_list (pv 1) (pe_call (ok_Ldraw T O) (hr.mono (by decide)) (by rfl) O.m_Ldraw O.F_Ldraw.kp O.b_Ldraw .nil pass0 (pa_cons (pv 0) (pa_cons (pe_callB (r := Jv.rLenK K) Jv.cr_len (by rfl) O.z_len (by decide +kernel) (pa_cons (pv 1) pa_nil)) pa_nil))) (fun _ _ => rfl)))), ?_⟩
  walk_at "r"
  refine ⟨p, l, _, rfl, hh, ⟨by omega, Jv.log_small (by omega) (by omega)⟩, fun r H' r0 r1 kp hh' => ?_⟩
  have hr : r.toNat < xs.length := by omega
  have e := List.getElem?_eq_getElem hr
  walk_at "r"
  exact Jv.r_ixL (Jv.sqL_at (kp t _ hne ht)) (Jv.at_i r0 e) (q _ _ _ e kp hh')
theorem ok_Lshape (T : Tx) (O : Ok K mg T) : FnOk P w K mg base CX0 3 T.f_Lshape T.d_Lshape ["_law_hand_here", "_law_row"] (sp_Lshape K) := by
  refine O.F_Lshape.ok sc_Lshape (fun vs H Q E h => by obtain ⟨_, _, _, _, _, _, rfl, _⟩ := h; rfl) (fun cdv A outer s H vs Q E hr h => ?_)
  obtain ⟨p, l, x, d, ds, N, rfl, hh, hm, hN, hx, e, q⟩ := h
  refine ⟨_, (pss_cons (ps_if (pt_cmpR op_eq (pe_call (ok_Ldraw T O) (hr.mono (by decide)) (by rfl) O.m_Ldraw O.F_Ldraw.kp O.b_Ldraw .nil pass0 (pa_cons (pv 0) (pa_cons pe_int pa_nil))) pe_int (nomark _)) (pss_one (ps_ret (pe_callTy (r := Jv.rListOf K) call_list_of (by rfl) O.z_list (by decide +kernel) (pa_cons (pv 1) pa_nil)))) pss_nil)
  (pss_one (ps_ret (pe_callTy (r := Jv.rTupOf K) call_tuple_of (by rfl) O.z_tuple (by decide +kernel) (pa_cons (pv 1) pa_nil))))), ?_⟩
  walk_at "r"
  refine ⟨p, l, 2, rfl, hh, ⟨by decide, Jv.log_small (by decide) (by decide)⟩, fun r H1 r0 r1 kp hh1 => ?_⟩
  have hx1 := hx.same (Jv.Kp.hideM kp hm)
  obtain ⟨xs, sk, al⟩ := hx1.sk e
  have sk1 := sk.same Jv.hide_le
  have hN1 : Jv.Held N H1 := fun b m => by
    obtain ⟨ys, h⟩ := hN b m
    by_cases hb : b = p
    · subst hb; exact hh1.at
    · exact ⟨_, kp b _ hb h⟩
  walk_at "r"
  refine Jv.r_decI (fun hc => ?_) (fun hc => ?_)
  · obtain ⟨a, rfl, h⟩ := sk1
    walk_at "r"
    refine Jv.r_listOf h fun t ht => ?_
    exact q _ (.list ds) _ (kp.trans (Jv.Kp.new ht)) (hh1.same (Jv.same_new ht)) rfl (Jv.dv_newL ht hN1 al)
  · walk_at "r"
    have hx2 := hx1.same Jv.hide_le
    cases hx1 with
    | lst h1 h2 =>
      cases e
      obtain ⟨a, ea, h⟩ := sk
      refine Jv.r_tupOfL (Jv.sqL_at (Jv.hide_le _ _ h1)) fun t ht => ?_
      exact q _ (.tuple ds) _ (kp.trans (Jv.Kp.new ht)) (hh1.same (Jv.same_new ht)) rfl (Jv.dv_new ht hN1 h2)
    | tup h1 h2 =>
      cases e
      exact Jv.r_tupOfT (Jv.Same.sqT Jv.hide_le h1) (q _ (.tuple ds) _ kp hh1 rfl (.tup h1 h2))
    | _ => cases e
theorem ok_Ldeep (T : Tx) (O : Ok K mg T) : FnOk P w K mg base CX0 4 T.f_Ldeep T.d_Ldeep ["_law_hand_here", "_law_rows"] (sp_Ldeep K) := by
  refine O.F_Ldeep.ok sc_Ldeep (fun vs H Q E h => by obtain ⟨_, _, _, _, _, rfl, _⟩ := h; rfl) (fun cdv A outer s H vs Q E hr h => ?_)
  obtain ⟨p, l, x, d, ds, rfl, hh, hx, e, few, hseq, q⟩ := h
  refine ⟨_, (pss_one (ps_ret (pe_call (ok_Lshape T O) (hr.mono (by decide)) (by rfl) O.m_Lshape O.F_Lshape.kp O.b_Lshape .nil pass0 (pa_cons (pv 0) (pa_cons (pe_lc (own := [("_law_row", 2)]) (by rfl) sc_Ldeep.nd (Jv.piOr (show PI _ _ _ (iList K _) from pi_list (pv 1)) (show PI _ _ _ (iTup K _) from pi_tup (pv 1))) (blkOk_by (own := [("_law_row", 2)]) (N := ["_law_hand_here", "_law_rows", "_law_row"]) (sc := defScope s_Ldeep) (scope := ({ kind := .function, names := [(".0", .local), ("_law_row", .local), ("_law_shape", .globalImplicit), ("_law_hand_here", .free)], isGenerator := false, isCoroutine := false } : Scope)) (by decide +kernel)) (fun _ _ _ _ _ => (pg_name (i := 2) sc_Ldeep.nd rfl (Or.inl rfl))) (fun _ _ _ _ _ => pts_nil) (fun _ _ _ _ _ => (pe_call (ok_Lshape T O) (hr.mono (by decide)) (by rfl) O.m_Lshape O.F_Lshape.kp O.b_Lshape .nil pass0 (pa_cons (pv 0) (pa_cons (pv 2) pa_nil))))) pa_nil))))), ?_⟩
  obtain ⟨xs, sk, al⟩ := hx.sk e
  have lx := al.len
  walk_at "r"
  have done : ∀ D ys H1, Jv.Kp p H H1 → Jv.Hand H1 p l → H D = none → D ≠ p → H1 D = some (.lst ys) → ys.length = xs.length → (∀ i y, ys[i]? = some y → ∃ e, Jv.Dv K (Jv.hide [D, p] H1) y e ∧ Jv.seqD e = (ds[i]?.bind Jv.seqD)) →
      sp_Lshape K [.ref p, .ref D] H1 Q E0 := fun D ys H1 k1 h1 hD nD eD ln al2 => by
    obtain ⟨es, ale, hes⟩ := Jv.pick_es al2
    have le := ale.len
    refine ⟨p, l, .ref D, .list es, es, [p], rfl, h1, by simp, h1.lst, .lst (Jv.hide_one nD eD) (ale.same Jv.hide_less), rfl, fun v e' H2 k2 h2 e2 dv => ?_⟩
    refine q v e' es H2 (k1.trans k2) h2 e2 (List.ext_getElem? fun i => ?_) dv
    rw [List.getElem?_map, List.getElem?_map]
    by_cases hi : i < es.length
    · have hi2 : i < ds.length := by omega
      rw [List.getElem?_eq_getElem hi, List.getElem?_eq_getElem hi2]
      have := hes i _ (List.getElem?_eq_getElem hi)
      rw [List.getElem?_eq_getElem hi2] at this
      exact congrArg some this
    · rw [List.getElem?_eq_none (by omega), List.getElem?_eq_none (by omega)]
  have item : ∀ i v D Hx, i < xs.length → xs[i]? = some v → Jv.Kp p H Hx → Jv.Hand Hx p l → H D = none → D ≠ p → (∃ ys, Hx D = some (.lst ys)) → ∀ PP : VK, (∀ y H2, Jv.Kp p Hx H2 → Jv.Hand H2 p l → (∃ e, Jv.Dv K (Jv.hide [D, p] H2) y e ∧ Jv.seqD e = (ds[i]?.bind Jv.seqD)) → PP y H2) →
      sp_Lshape K [.ref p, v] Hx PP E0 := fun i v D Hx hi hv kx hx' hD nD eD PP hP => by
    obtain ⟨dd, hdd, dvd⟩ := al.at hv
    obtain ⟨zs, hz⟩ := Option.isSome_iff_exists.mp (hseq dd (List.mem_of_getElem? hdd))
    refine ⟨p, l, v, dd, zs, [D, p], rfl, hx', by simp, fun b m => ?_, dvd.same (Jv.hideKp kx hD), hz, fun u e H2 k2 h2 e2 dv => hP u H2 k2 h2 ⟨e, dv, by rw [hdd]; exact e2.trans hz.symm⟩⟩
    rcases List.mem_cons.mp m with z | z
    · rw [z]; exact eD
    · exact hx'.lst b z
  refine Jv.lcKpS (K := K) (i := 1) (j := 2) (by rfl) sk hh (by omega) (fun H i v => ∃ e, Jv.Dv K H v e ∧ Jv.seqD e = (ds[i]?.bind Jv.seqD)) (fun _ _ _ _ s ⟨e, h1, h2⟩ => ⟨e, h1.same s, h2⟩) (fun i v D Hx hi hv kx hx' hD nD eD PP hP => ?_) (fun D ys H1 k1 h1 hD nD eD ln al2 => ?_)
  · walk_at "r"
    exact item i v D Hx hi hv kx hx' hD nD eD PP hP
  · walk_at "r"
    exact done D ys H1 k1 h1 hD nD eD ln al2
theorem ok_Lsame (T : Tx) (O : Ok K mg T) : ∀ n, FnOk P w K mg base CX0 (n + 1) T.f_Lsame T.d_Lsame ["_law_answer", "_law_due"] (sp_Lsame K n)
  | 0 => O.F_Lsame.ok sc_Lsame (fun vs H Q E h => h.elim) (fun cdv A outer s H vs Q E hr h => h.elim)
  | n + 1 => by
    have ih := ok_Lsame T O n
    refine O.F_Lsame.ok sc_Lsame (fun vs H Q E h => by obtain ⟨_, _, _, rfl, _⟩ := h; rfl) (fun cdv A outer s H vs Q E hr h => ?_)
    have ok_Lsame : Tx → Ok K mg T → FnOk P w K mg base CX0 (n + 1) T.f_Lsame T.d_Lsame ["_law_answer", "_law_due"] (sp_Lsame K n) := fun _ _ => ih
    obtain ⟨x, y, d, rfl, pl, hx, hy, q⟩ := h
    refine ⟨_, (pss_cons (ps_if (pt_val (pe_callB (r := rIsi K) call_isi (by rfl) O.z_isinstance (by decide +kernel) (pa_cons (pv 1) (pa_cons (pe_bltn (v := .ty "tuple") (by rfl) O.z_tuple (by decide +kernel) rfl) pa_nil)))) (pss_cons (ps_if (PW.pt (pw_or (pt_not (pt_val (pe_callB (r := rIsi K) call_isi (by rfl) O.z_isinstance (by decide +kernel) (pa_cons (pv 0) (pa_cons (pe_bltn (v := .ty "tuple") (by rfl) O.z_tuple (by decide +kernel) rfl) pa_nil))))) (pw_or1 (pt_cmpR op_ne (pe_callB (r := Jv.rLenK K) Jv.cr_len (by rfl) O.z_len (by decide +kernel) (pa_cons (pv 0) pa_nil)) (pe_callB (r := Jv.rLenK K) Jv.cr_len (by rfl) O.z_len (by decide +kernel) (pa_cons (pv 1) pa_nil)) (nomark _))))) (pss_one (ps_ret pe_bl)) pss_nil)
  (pss_cons (ps_for PassesOwn.never rfl (show PI _ _ _ (RZ.iZipA K _) from RZ.pi_zipA (by rfl) O.z_zip (pa_cons (pv 0) (pa_cons (pv 1) pa_nil))) (pg_tup rfl (pgs_cons (pg_name (i := 2) sc_Lsame.nd rfl (Or.inl rfl)) (pgs_cons (pg_name (i := 3) sc_Lsame.nd rfl (Or.inl rfl)) pgs_nil))) (pss_one (ps_if (pt_not (pt_val (pe_call (ok_Lsame T O) (hr.mono (Nat.le_refl _)) (by rfl) O.m_Lsame O.F_Lsame.kp O.b_Lsame .nil pass0 (pa_cons (pv 2) (pa_cons (pv 3) pa_nil))))) (pss_one (ps_ret pe_bl)) pss_nil)))
  (pss_one (ps_ret pe_bl)))) pss_nil)
  (pss_cons (ps_if (pt_cmpR op_isN (pv 1) pe_non (nomark _)) (pss_one (ps_ret (pe_cmpR op_isN (pv 0) pe_non (nomark _)))) pss_nil)
  (pss_cons (ps_if (PW.pt (pw_or (pt_val (pe_callB (r := rIsi K) call_isi (by rfl) O.z_isinstance (by decide +kernel) (pa_cons (pv 1) (pa_cons (pe_bltn (v := .ty "bool") (by rfl) O.z_bool (by decide +kernel) rfl) pa_nil)))) (pw_or1 (pt_val (pe_callB (r := rIsi K) call_isi (by rfl) O.z_isinstance (by decide +kernel) (pa_cons (pv 0) (pa_cons (pe_bltn (v := .ty "bool") (by rfl) O.z_bool (by decide +kernel) rfl) pa_nil))))))) (pss_one (ps_ret (pe_and (pe_callB (r := rIsi K) call_isi (by rfl) O.z_isinstance (by decide +kernel) (pa_cons (pv 1) (pa_cons (pe_bltn (v := .ty "bool") (by rfl) O.z_bool (by decide +kernel) rfl) pa_nil))) (pe_and (pe_callB (r := rIsi K) call_isi (by rfl) O.z_isinstance (by decide +kernel) (pa_cons (pv 0) (pa_cons (pe_bltn (v := .ty "bool") (by rfl) O.z_bool (by decide +kernel) rfl) pa_nil))) (pe_one (pe_cmpR op_eq (pv 0) (pv 1) (nomark _))))))) pss_nil)
  (pss_cons (ps_if (pt_val (pe_callB (r := rIsi K) call_isi (by rfl) O.z_isinstance (by decide +kernel) (pa_cons (pv 1) (pa_cons (pe_bltn (v := .ty "int") (by rfl) O.z_int (by decide +kernel) rfl) pa_nil)))) (pss_one (ps_ret (pe_and (pe_callB (r := rIsi K) call_isi (by rfl) O.z_isinstance (by decide +kernel) (pa_cons (pv 0) (pa_cons (pe_bltn (v := .ty "int") (by rfl) O.z_int (by decide +kernel) rfl) pa_nil))) (pe_one (pe_cmpR op_eq (pv 0) (pv 1) (nomark _)))))) pss_nil)
  (pss_one (ps_ret (pe_and (pe_callB (r := rIsi K) call_isi (by rfl) O.z_isinstance (by decide +kernel) (pa_cons (pv 0) (pa_cons (pe_bltn (v := .ty "str") (by rfl) O.z_str (by decide +kernel) rfl) pa_nil))) (pe_one (pe_cmpR op_eq (pv 0) (pv 1) (nomark _)))))))))), ?_⟩
    walk_at "r"
    refine Jv.d_isT hy ?_
    have flat : Jv.seqD d = none → Jv.boolD d = false → (Jv.tyD d == "tuple") = false := fun e _ => by
      cases d with
      | list _ => cases e
      | tuple _ => cases e
      | _ => rfl
    rcases (show (Jv.seqD d = none ∧ Jv.boolD d = false) ∨ ∃ ds m, n = m + 1 ∧ d = .tuple ds ∧ ds.length ≤ 100 ∧ ∀ e ∈ ds, Pl m e by
      cases n with
      | zero => exact .inl pl
      | succ m =>
        rcases pl with h | ⟨ds, h1, h2, h3⟩
        · exact .inl h
        · exact .inr ⟨ds, m, rfl, h1, h2, h3⟩) with ⟨e1, e2⟩ | ⟨ds, m, rfl, rfl, few, ps⟩
    · rw [flat e1 e2]
      have q1 := q _ (Same.refl _)
      cases d with
      | list _ => cases e1
      | tuple _ => cases e1
      | bool _ => cases e2
      | none =>
        cases hx; cases hy
        walk_at "r"
        exact q1
      | int i =>
        cases hx; cases hy
        walk_at "r"
        rw [decide_eq_true rfl]
        exact q1
      | str z =>
        have hx0 := hx
        cases hx; cases hy
        walk_at "r"
        refine Jv.d_isStr hx0 ?_
        walk_at "r"
        rw [decide_eq_true rfl]
        exact q1
      | dict _ => cases hx
    · have hx0 := hx
      cases hx with
      | @tup b1 xs1 _ h1 a1 =>
        cases hy with
        | @tup b2 ys2 _ h2 a2 =>
          have l1 := a1.len
          have l2 := a2.len
          walk_at "r"
          refine Jv.d_isT hx0 ?_
          walk_at "r"
          rw [show xs1.length = ys2.length by omega, decide_eq_true rfl]
          walk_at "r"
          refine ⟨_, rfl, _, rfl, _, _, xs1, ys2, rfl, .inr ⟨h1, h2, for_it (Jv.walk_zipA (K := K) (a := b1) (b := b2) (xs := xs1) (ys := ys2) rfl) (fun j σ H' => ∃ y2 y3, σ = [some (.ref b1), some (.ref b2), y2, y3] ∧ Same H H') ⟨_, _, rfl, Same.refl _⟩ (fun j σ H' _ ⟨_, _, _, s'⟩ => ⟨Jv.Same.sqT s' h1, Jv.Same.sqT s' h2⟩) ?_ ?_⟩⟩
          · rintro j x σ H1 H2 hj ⟨y2, y3, rfl, s1⟩ ⟨tt, u1, u2, rfl, ht, rfl, g1, g2⟩
            obtain ⟨dd, hdd, dv1⟩ := a1.at g1
            obtain ⟨de, hde, dv2⟩ := a2.at g2
            rw [hdd] at hde; cases hde
            have s2 := Jv.same_new (u := .tup [u1, u2]) ht
            refine Jv.r_gtup (Jv.sqT_at upd_same) rfl ?_
            walk_at "r"
            refine ⟨u1, u2, dd, rfl, ps _ (List.mem_of_getElem? hdd), dv1.same (s1.trans s2), dv2.same (s1.trans s2), fun H3 s3 => ?_⟩
            walk_at "r"
            exact ⟨_, _, rfl, s1.trans (s2.trans s3)⟩
          · rintro σ H1 ⟨y2, y3, rfl, s1⟩
            walk_at "r"
            exact q _ s1
end
end K17

namespace K17
open PySem PySem.Spec PyProof.Rows L2
/-! ### names; what is asked -/
def lettersS : Str := Str.ofString "abcdefghijklmnopqrstuvwxyz"
theorem letters_list : lettersS.cps.toList = (List.range 26).map (97 + ·) := by decide +kernel
theorem letter_at {r : Int} (h0 : 0 ≤ r) (h1 : r < 26) : ∃ c, atI lettersS.cps.toList r = some c ∧ letter c = true := by
  obtain ⟨k, rfl⟩ : ∃ k : Nat, r = k := ⟨r.toNat, by omega⟩
  refine ⟨97 + k, ?_, ?_⟩
  · rw [letters_list]
    refine atI_nat ?_
    rw [List.getElem?_map, List.getElem?_range (by omega)]; rfl
  · unfold letter
    rw [decide_eq_true (by omega), decide_eq_true (by omega)]; rfl
structure NamesL (ss : List Str) : Prop where
  n0 : ss ≠ []
  n2 : ss.length ≤ 2
  ok : ∀ z ∈ ss, nameS z = true ∧ z.length ≤ 4
theorem name_of {z : Str} (h : z.cps.toList.all letter = true) (h1 : 1 ≤ z.length) (h4 : z.length ≤ 8) : nameS z = true := by
  unfold nameS
  rw [decide_eq_true h1, decide_eq_true h4, h]; rfl
theorem str_snoc (z : Str) (c : Nat) : (z ++ (⟨#[c]⟩ : Str)).cps.toList = z.cps.toList ++ [c] := by
  show (z.cps ++ #[c]).toList = _
  simp
theorem str_len (z : Str) : z.length = z.cps.toList.length := by
  show z.cps.size = _
  simp
theorem more_name {z : Str} {c : Nat} (h : z.cps.toList.all letter = true) (hc : letter c = true) : (z ++ (⟨#[c]⟩ : Str)).length = z.length + 1 ∧ (z ++ (⟨#[c]⟩ : Str)).cps.toList.all letter = true := by
  refine ⟨by rw [str_len, str_len, str_snoc, List.length_append]; rfl, ?_⟩
  rw [str_snoc, List.all_append, h]
  simp [hc]
def sp_Lnames : Sp := fun vs H Q _ => ∃ p l, vs = [.ref p] ∧ Jv.Hand H p l ∧ ∀ r ss H', Jv.Kp p H H' → Jv.Hand H' p l → r ≠ p → H' r = some (.lst (ss.map V.str)) → NamesL ss → Q (.ref r) H'
def sp_Lasked : Sp := fun vs H Q _ => ∃ p l L, vs = [.ref p, .int L] ∧ Jv.Hand H p l ∧ (0 ≤ L ∧ L ≤ 6) ∧ ∀ v d H', Jv.Kp p H H' → Jv.Hand H' p l → Cnd d → (∀ (K : PySem.W.Frag) G, Jv.Dv K G v d) → Q v H'
section
variable {P : Program} {w : World} {K : PySem.W.Frag} {mg : Str → Option Value} {base : Heap}
theorem ok_Lasked (T : Tx) (O : Ok K mg T) : FnOk P w K mg base CX0 3 T.f_Lasked T.d_Lasked ["_law_hand_here", "_law_ladder"] sp_Lasked := by
  refine O.F_Lasked.ok sc_Lasked (fun vs H Q E h => by obtain ⟨_, _, _, rfl, _⟩ := h; rfl) (fun cdv A outer s H vs Q E hr h => ?_)
  obtain ⟨p, l, L, rfl, hh, hL, q⟩ := h
  refine ⟨_, (pss_cons (ps_set (i := 2) sc_Lasked.nd rfl (Or.inl rfl) (pe_call (ok_Ldraw T O) (hr.mono (by decide)) (by rfl) O.m_Ldraw O.F_Ldraw.kp O.b_Ldraw .nil pass0 (pa_cons (pv 0) (pa_cons pe_int pa_nil))))
  (pss_cons (ps_if (pt_cmpR op_lt (pv 2) pe_int (nomark _)) (pss_one (ps_ret pe_non)) pss_nil)
  (pss_one (ps_ret (pe_ifExp (pt_cmpR op_eq (pv 2) pe_int (nomark _)) pe_str (pe_call (ok_Ldraw T O) (hr.mono (by decide)) (by rfl) O.m_Ldraw O.F_Ldraw.kp O.b_Ldraw .nil pass0 (pa_cons (pv 0) (pa_cons (pe_op op_add (pv 1) pe_int) pa_nil)))))))), ?_⟩
  walk_at "r"
  refine ⟨p, l, 8, rfl, hh, ⟨by decide, Jv.log_small (by decide) (by decide)⟩, fun r H1 r0 r1 kp1 hh1 => ?_⟩
  walk_at "r"
  refine Jv.r_dec (fun h5 => ?_) (fun h5 => ?_)
  · walk_at "r"
    exact q _ _ _ kp1 hh1 (.inl rfl) fun _ _ => .non
  · walk_at "r"
    refine Jv.r_decI (fun h6 => ?_) (fun h6 => ?_)
    · walk_at "r"
      exact q _ _ _ kp1 hh1 (.inr (.inl rfl)) fun _ _ => .str _
    · walk_at "r"
      refine ⟨p, l, _, rfl, hh1, ⟨by omega, Jv.log_small (by omega) (by omega)⟩, fun z H2 z0 z1 kp2 hh2 => ?_⟩
      exact q _ _ _ (kp1.trans kp2) hh2 (.inr (.inr ⟨z, rfl, z0, by omega⟩)) fun _ _ => .int _
theorem ok_Lnames (T : Tx) (O : Ok K mg T) : FnOk P w K mg base CX0 3 T.f_Lnames T.d_Lnames ["_law_hand_here"] sp_Lnames := by
  refine O.F_Lnames.ok sc_Lnames (fun vs H Q E h => by obtain ⟨_, _, rfl, _⟩ := h; rfl) (fun cdv A outer s H vs Q E hr h => ?_)
  obtain ⟨p, l, rfl, hh, q⟩ := h
  refine ⟨_, (pss_cons (ps_set (i := 1) sc_Lnames.nd rfl (Or.inl rfl) pe_str)
  (pss_cons (ps_set (i := 2) sc_Lnames.nd rfl (Or.inl rfl) pe_str)
  (pss_cons (ps_for PassesOwn.never rfl (pi_range1 (by rfl) O.z_range (pa_cons (pe_op op_add pe_int (pe_call (ok_Ldraw T O) (hr.mono (by decide)) (by rfl) O.m_Ldraw O.F_Ldraw.kp O.b_Ldraw .nil pass0 (pa_cons (pv 0) (pa_cons pe_int pa_nil)))) pa_nil)) (pg_name (i := 3) sc_Lnames.nd rfl (Or.inl rfl)) (pss_one (ps_set (i := 2) sc_Lnames.nd rfl (Or.inl rfl) (pe_op op_add_str (pv 2) (pe_ix ix_str (pv 1) (pe_call (ok_Ldraw T O) (hr.mono (by decide)) (by rfl) O.m_Ldraw O.F_Ldraw.kp O.b_Ldraw .nil pass0 (pa_cons (pv 0) (pa_cons pe_int pa_nil))) (fun _ _ => rfl))))))
  (pss_cons (ps_set (i := 4) sc_Lnames.nd rfl (Or.inl rfl) (pe_lst (pa_cons (pv 2) pa_nil)))
  (pss_cons (ps_if (pt_cmpR op_eq (pe_call (ok_Ldraw T O) (hr.mono (by decide)) (by rfl) O.m_Ldraw O.F_Ldraw.kp O.b_Ldraw .nil pass0 (pa_cons (pv 0) (pa_cons pe_int pa_nil))) pe_int (nomark _)) (pss_one (ps_expr (show PE _ _ (tBM K _ _ _ _) from pe_bm PySem.F.plainAttrs_list PySem.F.slot_list_insert PySem.F.type_list_insert mt_insert (pv 4) (pa_cons (pe_call (ok_Ldraw T O) (hr.mono (by decide)) (by rfl) O.m_Ldraw O.F_Ldraw.kp O.b_Ldraw .nil pass0 (pa_cons (pv 0) (pa_cons pe_int pa_nil))) (pa_cons (pe_op op_add_str (pv 2) (pe_ix ix_str (pv 1) (pe_call (ok_Ldraw T O) (hr.mono (by decide)) (by rfl) O.m_Ldraw O.F_Ldraw.kp O.b_Ldraw .nil pass0 (pa_cons (pv 0) (pa_cons pe_int pa_nil))) (fun _ _ => rfl))) pa_nil))))) pss_nil)
  (pss_one (ps_ret (pv 4)))))))), ?_⟩
  walk_at "r"
  refine ⟨p, l, 3, rfl, hh, ⟨by decide, Jv.log_small (by decide) (by decide)⟩, fun r H1 r0 r1 kp1 hh1 => ?_⟩
  walk_at "r"
  refine ⟨_, rfl, by omega, by omega, for_range (lo := 0) (n := (1 + r).toNat) (fun j σ H' => ∃ z y3 y4, σ = [some (.ref p), some (.str lettersS), some (.str z), y3, y4] ∧ Jv.Kp p H H' ∧ Jv.Hand H' p l ∧ z.length = j ∧ z.cps.toList.all letter = true) ⟨Str.ofString "", _, _, rfl, kp1, hh1, by decide +kernel, by decide +kernel⟩ ?_ ?_⟩
  · rintro j σ H2 hj ⟨z, y3, y4, rfl, kp2, hh2, lz, az⟩
    walk_at "r"
    refine ⟨p, l, 26, rfl, hh2, ⟨by decide, Jv.log_small (by decide) (by decide)⟩, fun k H3 k0 k1 kp3 hh3 => ?_⟩
    obtain ⟨c, hc, lc⟩ := letter_at k0 k1
    obtain ⟨m1, m2⟩ := more_name az lc
    refine ⟨lettersS, k, c, rfl, rfl, Jv.small_of (by decide +kernel), hc, ?_⟩
    refine ⟨z, ⟨#[c]⟩, rfl, rfl, Jv.small_of (by rw [lz]; show j + 1 ≤ 1000; omega), ?_⟩
    walk_at "r"
    exact ⟨_, _, _, rfl, kp2.trans kp3, hh3, by rw [m1, lz], m2⟩
  · rintro σ H2 ⟨z, y3, y4, rfl, kp2, hh2, lz, az⟩
    have nz : nameS z = true := name_of az (by omega) (by omega)
    walk_at "r"
    intro g hg
    have ng := hh2.ne2 hg
    have hh3 := hh2.same (Jv.same_new (u := .lst [V.str z]) hg)
    have kp3 : Jv.Kp p H (upd H2 g (.lst [V.str z])) := kp2.trans (Jv.Kp.new hg)
    have eg : upd H2 g (.lst [V.str z]) g = some (.lst [V.str z]) := upd_same
    generalize upd H2 g (.lst [V.str z]) = H3 at hh3 kp3 eg
    walk_at "r"
    refine ⟨p, l, 2, rfl, hh3, ⟨by decide, Jv.log_small (by decide) (by decide)⟩, fun b H4 b0 b1 kp4 hh4 => ?_⟩
    have eg4 := kp4 _ _ ng.1 eg
    walk_at "r"
    refine Jv.r_decI (fun hb => ?_) (fun hb => ?_)
    · walk_at "r"
      refine ⟨p, l, 2, rfl, hh4, ⟨by decide, Jv.log_small (by decide) (by decide)⟩, fun i H5 i0 i1 kp5 hh5 => ?_⟩
      walk_at "r"
      refine ⟨p, l, 26, rfl, hh5, ⟨by decide, Jv.log_small (by decide) (by decide)⟩, fun k H6 k0 k1 kp6 hh6 => ?_⟩
      obtain ⟨c, hc, lc⟩ := letter_at k0 k1
      obtain ⟨m1, m2⟩ := more_name az lc
      have eg6 := kp6 _ _ ng.1 (kp5 _ _ ng.1 eg4)
      have nz2 : nameS (z ++ (⟨#[c]⟩ : Str)) = true := name_of m2 (by omega) (by omega)
      refine ⟨lettersS, k, c, rfl, rfl, Jv.small_of (by decide +kernel), hc, ?_⟩
      refine ⟨z, ⟨#[c]⟩, rfl, rfl, Jv.small_of (by rw [lz]; show _ + 1 ≤ 1000; omega), ?_⟩
      walk_at "r"
      refine ⟨g, [V.str z], i, _, rfl, rfl, eg6, Jv.small_lt (by simp), i0, by omega, ?_⟩
      walk_at "r"
      have hi : i = 0 ∨ i = 1 := by omega
      have hh7 := hh6.upd (o := .lst ([V.str z].take i.toNat ++ [V.str (z ++ (⟨#[c]⟩ : Str))] ++ [V.str z].drop i.toNat)) ng.1 ng.2
      have kp7 : Jv.Kp p H (upd H6 g (.lst ([V.str z].take i.toNat ++ [V.str (z ++ (⟨#[c]⟩ : Str))] ++ [V.str z].drop i.toNat))) := fun b o nb hb => by
        rw [upd_ne ?_]
        · exact kp6 _ _ nb (kp5 _ _ nb (kp4 _ _ nb (kp3 _ _ nb hb)))
        · exact ne_of_none hb (Jv.Kp.free kp2 hh2 hg)
      rcases hi with rfl | rfl
      · exact q g [z ++ (⟨#[c]⟩ : Str), z] _ kp7 hh7 ng.1 upd_same ⟨by simp, by simp, fun y m => by
          simp only [List.mem_cons, List.not_mem_nil, or_false] at m
          rcases m with rfl | rfl
          · exact ⟨nz2, by omega⟩
          · exact ⟨nz, by omega⟩⟩
      · exact q g [z, z ++ (⟨#[c]⟩ : Str)] _ kp7 hh7 ng.1 upd_same ⟨by simp, by simp, fun y m => by
          simp only [List.mem_cons, List.not_mem_nil, or_false] at m
          rcases m with rfl | rfl
          · exact ⟨nz, by omega⟩
          · exact ⟨nz2, by omega⟩⟩
    · walk_at "r"
      exact q g [z] _ (kp3.trans kp4) hh4 ng.1 eg4 ⟨by simp, by simp, fun y m => by
        rw [List.mem_singleton.mp m]
        exact ⟨nz, by omega⟩⟩
end
end K17

namespace K17
open PySem PySem.Spec PyProof.Rows L2
/-! ### tests, drawn -/
def tD (t : Str × Int × Int) : PyData := .tuple [.str t.1, .int t.2.1, .int t.2.2]
def TOk (t : Str × Int × Int) : Prop := nameS t.1 = true ∧ 0 ≤ t.2.1 ∧ t.2.1 ≤ t.2.2 ∧ t.2.2 ≤ 40
structure TestsOk (d : PyData) : Prop where
  ok : testsD d = true
  nrm : normT d = d
  few : fewTs d
  shp : SeqAt.shaped d = true
  pl : Pl 2 d
  tup : ∃ ts : List (Str × Int × Int), d = .tuple (ts.map tD) ∧ ts.length ≤ 4 ∧ ∀ t ∈ ts, TOk t
theorem name_strOk {z : Str} (h : nameS z = true) : PyData.strOk z = true := by
  unfold nameS at h
  rw [Bool.and_eq_true] at h
  unfold PyData.strOk
  rw [← Array.all_toList, List.all_eq_true]
  intro c m
  have := List.all_eq_true.mp h.2 c m
  unfold letter at this
  rw [Bool.and_eq_true] at this
  have := of_decide_eq_true this.2
  exact decide_eq_true (by omega)
theorem canAll_of : ∀ {ds : List PyData}, (∀ d ∈ ds, d.canLay0 = true) → PyData.canLayAll0 ds = true
  | [], _ => by simp [PyData.canLayAll0]
  | a :: r, h => by simp [PyData.canLayAll0, h a List.mem_cons_self, canAll_of fun d m => h d (List.mem_cons_of_mem _ m)]
theorem depAll_of {n : Nat} : ∀ {ds : List PyData}, (∀ d ∈ ds, d.depth ≤ n) → PyData.depthAll ds ≤ n
  | [], _ => by simp [PyData.depthAll]
  | a :: r, h => by
    have h1 := h a List.mem_cons_self
    have h2 := depAll_of fun d m => h d (List.mem_cons_of_mem _ m)
    simp [PyData.depthAll]; omega
theorem tests_are {ts : List (Str × Int × Int)} (h : ∀ t ∈ ts, TOk t) (l : ts.length ≤ 4) : TestsOk (.tuple (ts.map tD)) := by
  have nm8 : ∀ t ∈ ts, t.1.length ≤ 8 := fun t m => by
    have := (h t m).1
    unfold nameS at this
    rw [Bool.and_eq_true, Bool.and_eq_true] at this
    exact of_decide_eq_true this.1.2
  refine ⟨?_, ?_, ?_, ?_, ?_, ts, rfl, l, h⟩
  · unfold testsD
    show (decide ((ts.map tD).length ≤ 4) && (ts.map tD).all testD) = true
    rw [List.length_map, decide_eq_true l, Bool.true_and, List.all_eq_true]
    intro x m
    obtain ⟨t, ht, rfl⟩ := List.mem_map.mp m
    obtain ⟨h1, h2, h3, h4⟩ := h t ht
    rw [test_yes (d := tD t) rfl]
    rw [show nameD (.str t.1) = nameS t.1 from rfl, h1, whole_in h2 (by omega), show Jv.wholeD (.int t.2.2) (loV (.int t.2.1)) (.int 40) = true from whole_in h3 h4]
    rfl
  · unfold normT
    show PyData.tuple ((ts.map tD).map _) = _
    rw [List.map_map]
    rfl
  · intro es e
    cases e
    refine ⟨by rw [List.length_map]; omega, fun x m => ?_⟩
    obtain ⟨t, ht, rfl⟩ := List.mem_map.mp m
    intro zs e
    cases e
    refine ⟨by simp, fun y my => ?_⟩
    simp only [List.mem_cons, List.not_mem_nil, or_false] at my
    rcases my with rfl | rfl | rfl
    · intro z e; cases e; have := nm8 t ht; omega
    · intro z e; cases e
    · intro z e; cases e
  · have h1 : PyData.canLayAll0 (ts.map tD) = true := canAll_of fun x m => by
      obtain ⟨t, ht, rfl⟩ := List.mem_map.mp m
      unfold tD
      simp only [PyData.canLay0, PyData.canLayAll0, name_strOk (h t ht).1, Bool.and_self]
    have h2 : PyData.depthAll (ts.map tD) ≤ 1 := depAll_of fun x m => by
      obtain ⟨t, ht, rfl⟩ := List.mem_map.mp m
      unfold tD
      simp [PyData.depth, PyData.depthAll]
    unfold SeqAt.shaped
    rw [show PyData.canLay0 (.tuple (ts.map tD)) = true by simp only [PyData.canLay0]; exact h1, decide_eq_true (by simp only [PyData.depth]; omega)]
    rfl
  · refine .inr ⟨_, rfl, by rw [List.length_map]; omega, fun x m => ?_⟩
    obtain ⟨t, ht, rfl⟩ := List.mem_map.mp m
    refine .inr ⟨_, rfl, by simp, fun y my => ?_⟩
    simp only [List.mem_cons, List.not_mem_nil, or_false] at my
    rcases my with rfl | rfl | rfl <;> exact ⟨rfl, rfl⟩
def sp_Ltests (K : PySem.W.Frag) : Sp := fun vs H Q _ => ∃ p l r ss, vs = [.ref p, .ref r] ∧ Jv.Hand H p l ∧ r ≠ p ∧ H r = some (.lst (ss.map V.str)) ∧ NamesL ss ∧
  ∀ v d H', Jv.Kp p H H' → Jv.Hand H' p l → TestsOk d → Jv.Dv K (Jv.hide [p] H') v d → Q v H'
section
variable {P : Program} {w : World} {K : PySem.W.Frag} {mg : Str → Option Value} {base : Heap}
theorem ok_Ltests (T : Tx) (O : Ok K mg T) : FnOk P w K mg base CX0 4 T.f_Ltests T.d_Ltests ["_law_hand_here", "_law_names_here"] (sp_Ltests K) := by
  refine O.F_Ltests.ok sc_Ltests (fun vs H Q E h => by obtain ⟨_, _, _, _, rfl, _⟩ := h; rfl) (fun cdv A outer s H vs Q E hr h => ?_)
  obtain ⟨p, l, r, ss, rfl, hh, nr, er, nm, q⟩ := h
  refine ⟨_, (pss_cons (ps_set (i := 2) sc_Ltests.nd rfl (Or.inl rfl) (pe_lst pa_nil))
  (pss_cons (ps_for PassesOwn.never rfl (pi_range1 (by rfl) O.z_range (pa_cons (pe_call (ok_Lpick T O) (hr.mono (by decide)) (by rfl) O.m_Lpick O.F_Lpick.kp O.b_Lpick .nil pass0 (pa_cons (pv 0) (pa_cons (pe_lst (pa_cons pe_int (pa_cons pe_int (pa_cons pe_int (pa_cons pe_int (pa_cons pe_int (pa_cons pe_int (pa_cons pe_int (pa_cons pe_int pa_nil))))))))) pa_nil))) pa_nil)) (pg_name (i := 3) sc_Ltests.nd rfl (Or.inl rfl)) (pss_cons (ps_set (i := 4) sc_Ltests.nd rfl (Or.inl rfl) (pe_call (ok_Lpick T O) (hr.mono (by decide)) (by rfl) O.m_Lpick O.F_Lpick.kp O.b_Lpick .nil pass0 (pa_cons (pv 0) (pa_cons (pv 1) pa_nil))))
  (C8.pss_cut (ps_if (pt_cmpR op_eq (pe_call (ok_Ldraw T O) (hr.mono (by decide)) (by rfl) O.m_Ldraw O.F_Ldraw.kp O.b_Ldraw .nil pass0 (pa_cons (pv 0) (pa_cons pe_int pa_nil))) pe_int (nomark _)) (pss_one (ps_set (i := 4) sc_Ltests.nd rfl (Or.inl rfl) (pe_op op_add_str (Jv.pe_maxKL (pa_cons (pv 1) pa_nil) (by rfl) (by rfl) O.z_max (by rfl) O.z_len (by decide +kernel) (by decide +kernel)) pe_str))) pss_nil)
  (C8.pss_cut (ps_set (i := 5) sc_Ltests.nd rfl (Or.inl rfl) (pe_ifExp (pt_cmpR op_gt (pe_call (ok_Ldraw T O) (hr.mono (by decide)) (by rfl) O.m_Ldraw O.F_Ldraw.kp O.b_Ldraw .nil pass0 (pa_cons (pv 0) (pa_cons pe_int pa_nil))) pe_int (nomark _)) (pe_call (ok_Ldraw T O) (hr.mono (by decide)) (by rfl) O.m_Ldraw O.F_Ldraw.kp O.b_Ldraw .nil pass0 (pa_cons (pv 0) (pa_cons pe_int pa_nil))) (pe_call (ok_Ldraw T O) (hr.mono (by decide)) (by rfl) O.m_Ldraw O.F_Ldraw.kp O.b_Ldraw .nil pass0 (pa_cons (pv 0) (pa_cons pe_int pa_nil)))))
  (C8.pss_cut (ps_set (i := 6) sc_Ltests.nd rfl (Or.inl rfl) (pe_ifExp (pt_cmpR op_eq (pe_call (ok_Ldraw T O) (hr.mono (by decide)) (by rfl) O.m_Ldraw O.F_Ldraw.kp O.b_Ldraw .nil pass0 (pa_cons (pv 0) (pa_cons pe_int pa_nil))) pe_int (nomark _)) pe_int (pe_callB (r := Jv.rMin2) (call_min2 rfl) (by rfl) O.z_min (by decide +kernel) (pa_cons pe_int (pa_cons (pe_op op_add (pv 5) (pe_call (ok_Ldraw T O) (hr.mono (by decide)) (by rfl) O.m_Ldraw O.F_Ldraw.kp O.b_Ldraw .nil pass0 (pa_cons (pv 0) (pa_cons pe_int pa_nil)))) pa_nil)))))
  (pss_one (ps_expr (show PE _ _ (tBM K _ _ _ _) from pe_bm PySem.F.plainAttrs_list PySem.F.slot_list_append PySem.F.type_list_append mt_append (pv 2) (pa_cons (pe_tup (pa_cons (pv 4) (pa_cons (pv 5) (pa_cons (pv 6) pa_nil)))) pa_nil)))))))))
  (pss_one (ps_ret (pe_callTy (r := Jv.rTupOf K) call_tuple_of (by rfl) O.z_tuple (by decide +kernel) (pa_cons (pv 2) pa_nil)))))), ?_⟩
  walk_at "r"
  intro g hg
  have ng := hh.ne2 hg
  have s1 := Jv.same_new (u := .lst []) hg
  have hh1 := hh.same s1
  have er1 := s1 _ _ er
  have eg : upd H g (.lst []) g = some (.lst []) := upd_same
  have kp1 : Jv.Kp p H (upd H g (.lst [])) := Jv.Kp.same s1
  have ngr : g ≠ r := fun e => by rw [e, er] at hg; cases hg
  generalize upd H g (.lst []) = H1 at hh1 er1 eg kp1
  walk_at "r"
  intro gk hgk
  have ngk := hh1.ne2 hgk
  have s2 := Jv.same_new (u := .lst [V.int 0, V.int 0, V.int 0, V.int 1, V.int 1, V.int 1, V.int 2, V.int 4]) hgk
  walk_at "r"
  refine ⟨p, l, gk, _, rfl, hh1.same s2, upd_same, ngk.1, by simp, fun i v H2 hv kp2 hh2 => ?_⟩
  have kp02 : Jv.Kp p H1 H2 := (Jv.Kp.same s2).trans kp2
  obtain ⟨n, rfl, n0, n4⟩ : ∃ n : Int, v = .int n ∧ 0 ≤ n ∧ n ≤ 4 := by
    have m := List.mem_of_getElem? hv
    simp only [List.mem_cons, List.not_mem_nil, or_false] at m
    rcases m with rfl | rfl | rfl | rfl | rfl | rfl | rfl | rfl <;> exact ⟨_, rfl, by decide, by decide⟩
  walk_at "r"
  refine ⟨_, rfl, by omega, by omega, for_range (lo := 0) (n := n.toNat) (fun j σ H' => ∃ y3 y4 y5 y6 vs ts, σ = [some (.ref p), some (.ref r), some (.ref g), y3, y4, y5, y6] ∧ Jv.Kp p H H' ∧ Jv.Hand H' p l ∧ H' r = some (.lst (ss.map V.str)) ∧ H' g = some (.lst vs) ∧ Jv.DvAll K (Jv.hide [g, p] H') vs (ts.map tD) ∧ ts.length = j ∧ ∀ t ∈ ts, TOk t) ⟨_, _, _, _, [], [], rfl, kp1.trans kp02, hh2, kp02 _ _ nr er1, kp02 _ _ ng.1 eg, .nil, rfl, fun t m => by cases m⟩ ?_ ?_⟩
  · rintro j σ H3 hj ⟨y3, y4, y5, y6, vs, ts, rfl, kp3, hh3, er3, eg3, al3, lt, ok3⟩
    walk_at "r"
    refine ⟨p, l, r, _, rfl, hh3, er3, nr, by rw [List.length_map]; have := List.length_pos_iff.mpr nm.n0; have := nm.n2; omega, fun i v H4 hv kp4 hh4 => ?_⟩
    obtain ⟨z, hz, rfl⟩ : ∃ z, ss[i]? = some z ∧ v = .str z := by
      rw [List.getElem?_map] at hv
      cases e : ss[i]? with
      | none => rw [e] at hv; cases hv
      | some z => rw [e] at hv; cases hv; exact ⟨z, rfl, rfl⟩
    have nz := nm.ok z (List.mem_of_getElem? hz)
    walk_at "r"
    refine ⟨fun σ H' => ∃ z, σ = [some (.ref p), some (.ref r), some (.ref g), some (.int (0 + (j : Int))), some (.str z), y5, y6] ∧ Jv.Kp p H3 H' ∧ Jv.Hand H' p l ∧ nameS z = true, ?_, ?_⟩
    · walk_at "r"
      refine ⟨p, l, 5, rfl, hh4, ⟨by decide, Jv.log_small (by decide) (by decide)⟩, fun c H5 c0 c1 kp5 hh5 => ?_⟩
      walk_at "r"
      refine Jv.r_decI (fun hc => ?_) (fun hc => ?_)
      · walk_at "r"
        refine ⟨_, rfl, r, ss, rfl, Jv.sqL_at ((kp4.trans kp5) _ _ nr er3), nm.n0, fun y m => Jv.small_of (by have := (nm.ok y m).2; omega), fun y m => ?_⟩
        walk_at "r"
        refine ⟨y, _, rfl, rfl, Jv.small_of (by have := (nm.ok y m).2; rw [show (Str.ofString "qq").length = 2 by decide +kernel]; omega), ?_⟩
        walk_at "r"
        refine ⟨_, rfl, kp4.trans kp5, hh5, ?_⟩
        have ny := nm.ok y m
        have l2 : (y ++ Str.ofString "qq").cps.toList = y.cps.toList ++ [113, 113] := by
          show (y.cps ++ (Str.ofString "qq").cps).toList = _
          rw [Array.toList_append, show (Str.ofString "qq").cps.toList = [113, 113] by decide +kernel]
        have ll : (y ++ Str.ofString "qq").length = y.length + 2 := by rw [str_len, str_len, l2, List.length_append]; rfl
        refine name_of ?_ (by omega) (by omega)
        have := ny.1
        unfold nameS at this
        rw [Bool.and_eq_true] at this
        rw [l2, List.all_append, this.2]; rfl
      · walk_at "r"
        exact ⟨z, rfl, kp4.trans kp5, hh5, nz.1⟩
    rintro σ H4' ⟨z, rfl, kp5, hh5, nz⟩
    clear kp4 hh4 hv hz
    walk_at "r"
    refine ⟨fun σ H' => ∃ a : Int, σ = [some (.ref p), some (.ref r), some (.ref g), some (.int (0 + (j : Int))), some (.str z), some (.int a), y6] ∧ Jv.Kp p H3 H' ∧ Jv.Hand H' p l ∧ 0 ≤ a ∧ a ≤ 40, ?_, ?_⟩
    · walk_at "r"
      refine ⟨p, l, 6, rfl, hh5, ⟨by decide, Jv.log_small (by decide) (by decide)⟩, fun c H6 c0 c1 kp6 hh6 => ?_⟩
      walk_at "r"
      refine Jv.r_dec (fun hc => ?_) (fun hc => ?_)
      · walk_at "r"
        refine ⟨p, l, 3, rfl, hh6, ⟨by decide, Jv.log_small (by decide) (by decide)⟩, fun a H7 a0 a1 kp7 hh7 => ?_⟩
        walk_at "r"
        exact ⟨a, rfl, kp5.trans (kp6.trans kp7), hh7, a0, by omega⟩
      · walk_at "r"
        refine ⟨p, l, 41, rfl, hh6, ⟨by decide, Jv.log_small (by decide) (by decide)⟩, fun a H7 a0 a1 kp7 hh7 => ?_⟩
        walk_at "r"
        exact ⟨a, rfl, kp5.trans (kp6.trans kp7), hh7, a0, by omega⟩
    rintro σ H6 ⟨a, rfl, kp6, hh6, a0, a1⟩
    clear kp5 hh5
    walk_at "r"
    refine ⟨fun σ H' => ∃ b : Int, σ = [some (.ref p), some (.ref r), some (.ref g), some (.int (0 + (j : Int))), some (.str z), some (.int a), some (.int b)] ∧ Jv.Kp p H3 H' ∧ Jv.Hand H' p l ∧ a ≤ b ∧ b ≤ 40, ?_, ?_⟩
    · walk_at "r"
      refine ⟨p, l, 3, rfl, hh6, ⟨by decide, Jv.log_small (by decide) (by decide)⟩, fun c H7 c0 c1 kp7 hh7 => ?_⟩
      walk_at "r"
      refine Jv.r_decI (fun hc => ?_) (fun hc => ?_)
      · walk_at "r"
        exact ⟨40, rfl, kp6.trans kp7, hh7, a1, by decide⟩
      · walk_at "r"
        refine ⟨p, l, 3, rfl, hh7, ⟨by decide, Jv.log_small (by decide) (by decide)⟩, fun b H8 b0 b1 kp8 hh8 => ?_⟩
        walk_at "r"
        exact ⟨_, rfl, kp6.trans (kp7.trans kp8), hh8, by split <;> omega, by split <;> omega⟩
    rintro σ H7 ⟨b, rfl, kp7, hh7, ab, b1⟩
    clear kp6 hh6
    walk_at "r"
    refine ⟨.inl ⟨rfl, _, Jv.sqL_at (kp7 _ _ ng.1 eg3)⟩, ?_⟩
    walk_at "r"
    intro t ht
    have s8 := Jv.same_new (u := .tup [V.str z, V.int a, V.int b]) ht
    have eg7 := s8 _ _ (kp7 _ _ ng.1 eg3)
    have htp := hh7.ne2 ht
    have hh8 := hh7.same s8
    have htg : t ≠ g := fun e => by rw [e, kp7 _ _ ng.1 eg3] at ht; cases ht
    walk_at "r"
    refine Jv.r_app eg7 (by rw [al3.len, List.length_map]; omega) ?_
    refine ⟨_, _, _, _, _, ts ++ [(z, a, b)], rfl, fun b' o nb hb => ?_, hh8.upd ng.1 ng.2, ?_, upd_same, ?_, by rw [List.length_append, lt]; rfl, fun u m => ?_⟩
    · rw [upd_ne (ne_of_none hb hg)]
      exact s8 _ _ (kp7 _ _ nb (kp3 _ _ nb hb))
    · rw [upd_ne ngr.symm]
      exact s8 _ _ (kp7 _ _ nr er3)
    · rw [Jv.hide_upd, List.map_append]
      refine ((al3.same (Jv.Kp.hideM kp7 (by simp))).same (Jv.hide_same s8)).app (.cons (.tup (xs := [V.str z, V.int a, V.int b]) (Jv.sqT_at (Jv.hide_at (by simp [htg, htp.1]) upd_same)) (.cons (.str z) (.cons (.int a) (.cons (.int b) .nil)))) .nil)
    · rcases List.mem_append.mp m with m | m
      · exact ok3 u m
      · rw [List.mem_singleton.mp m]; exact ⟨nz, a0, ab, b1⟩
  · rintro σ H3 ⟨y3, y4, y5, y6, vs, ts, rfl, kp3, hh3, er3, eg3, al3, lt, ok3⟩
    walk_at "r"
    refine Jv.r_tupOfL (Jv.sqL_at eg3) fun t ht => ?_
    exact q _ _ _ (kp3.trans (Jv.Kp.new ht)) (hh3.same (Jv.same_new ht)) (tests_are ok3 (by omega)) (Jv.dv_new ht (fun b m => by rw [List.mem_singleton.mp m]; exact hh3.at) (al3.same Jv.hide_less))
end
end K17

namespace Jv
open PySem PySem.Spec PyProof.Rows L2
theorem lcKpR {H : Hp} {p l : Addr} {σ : L2.St} {te : TE} {Q : VK} {j : Nat} {k : Int} (k0 : 0 ≤ k) (k9 : k ≤ 900) (hh : Hand H p l) (S : Hp → Nat → V → Prop) (hS : ∀ H H' i v, Same H H' → S H i v → S H' i v)
    (hs : ∀ i v D Hx, i < k.toNat → Kp p H Hx → Hand Hx p l → H D = none → D ≠ p → (∃ ys, Hx D = some (.lst ys)) → ∀ P : VK, (∀ y H2, Kp p Hx H2 → Hand H2 p l → S (hide [D, p] H2) i y → P y H2) → te ((σ.set j none).set j (some v)) Hx P)
    (hd : ∀ D ys H1, Kp p H H1 → Hand H1 p l → H D = none → D ≠ p → H1 D = some (.lst ys) → ys.length = k.toNat → (∀ i y, ys[i]? = some y → S (hide [D, p] H1) i y) → Q (.ref D) H1) : tLc (iRng1 (tCons (tC (.int k)) tNil)) (gName j) tYes te [j] σ H Q :=
  ⟨_, rfl, by omega, by omega, lcKpW (walk_range (lo := 0) (n := k.toNat)) (F := fun _ _ => True) (fun _ _ _ => trivial) (fun i H x H' _ h => ⟨h.1, trivial⟩) hh (by omega) S hS (fun i v D Hx hi _ k1 h1 hD nD eD P hP => hs i v D Hx hi k1 h1 hD nD eD P hP) hd⟩
end Jv
namespace K17
open PySem PySem.Spec PyProof.Rows L2
/-! ### a rule, drawn; made -/
def RuleD (ds : List PyData) : Prop := ∃ w d1 d2 d3 d4 lo d6 d7, GR ds w d1 d2 d3 d4 lo d6 d7 ∧ TestsOk d1
theorem RuleD.gr {ds : List PyData} (h : RuleD ds) : GRd ds := by
  obtain ⟨w, d1, d2, d3, d4, lo, d6, d7, g, _⟩ := h
  exact ⟨w, d1, d2, d3, d4, lo, d6, d7, g⟩
def sp_Lrule (K : PySem.W.Frag) : Sp := fun vs H Q _ => ∃ p l r ss L g, vs = [.ref p, .ref r, .int L, .bl g] ∧ Jv.Hand H p l ∧ r ≠ p ∧ H r = some (.lst (ss.map V.str)) ∧ NamesL ss ∧ (0 ≤ L ∧ L ≤ 6) ∧
  ∀ v ds H', Jv.Kp p H H' → Jv.Hand H' p l → RuleD ds → Jv.Dv K (Jv.hide [p] H') v (.tuple ds) → Q v H'
def oI : Option Int → V
  | none => .non
  | some i => .int i
def oD : Option Int → PyData
  | none => .none
  | some i => .int i
theorem oI_dv {K : PySem.W.Frag} {H : Hp} {o : Option Int} : Jv.Dv K H (oI o) (oD o) := by
  cases o with
  | none => exact .non
  | some i => exact .int i
section
variable {P : Program} {w : World} {K : PySem.W.Frag} {mg : Str → Option Value} {base : Heap}
theorem ok_Lrule (T : Tx) (O : Ok K mg T) : FnOk P w K mg base CX0 5 T.f_Lrule T.d_Lrule ["_law_hand_here", "_law_names_here", "_law_ladder", "_law_guarded"] (sp_Lrule K) := by
  refine O.F_Lrule.ok sc_Lrule (fun vs H Q E h => by obtain ⟨_, _, _, _, _, _, rfl, _⟩ := h; rfl) (fun cdv A outer s H vs Q E hr h => ?_)
  obtain ⟨p, l, r, ss, L, gd, rfl, hh, nr, er, nm, hL, q⟩ := h
  refine ⟨_, (pss_cons (ps_set (i := 4) sc_Lrule.nd rfl (Or.inl rfl) (pe_call (ok_Ldraw T O) (hr.mono (by decide)) (by rfl) O.m_Ldraw O.F_Ldraw.kp O.b_Ldraw .nil pass0 (pa_cons (pv 0) (pa_cons (pe_op op_add (pv 2) pe_int) pa_nil))))
  (C8.pss_cut (ps_set (i := 5) sc_Lrule.nd rfl (Or.inl rfl) (pe_ifExp (pt_cmpR op_eq (pe_call (ok_Ldraw T O) (hr.mono (by decide)) (by rfl) O.m_Ldraw O.F_Ldraw.kp O.b_Ldraw .nil pass0 (pa_cons (pv 0) (pa_cons pe_int pa_nil))) pe_int (nomark _)) (pe_call (ok_Ldraw T O) (hr.mono (by decide)) (by rfl) O.m_Ldraw O.F_Ldraw.kp O.b_Ldraw .nil pass0 (pa_cons (pv 0) (pa_cons (pe_op op_add (pv 2) pe_int) pa_nil))) pe_int))
  (C8.pss_cut (ps_set (i := 6) sc_Lrule.nd rfl (Or.inl rfl) (pe_ifExp (pt_cmpR op_eq (pe_call (ok_Ldraw T O) (hr.mono (by decide)) (by rfl) O.m_Ldraw O.F_Ldraw.kp O.b_Ldraw .nil pass0 (pa_cons (pv 0) (pa_cons pe_int pa_nil))) pe_int (nomark _)) pe_non (pe_op op_add (pv 5) (pe_call (ok_Ldraw T O) (hr.mono (by decide)) (by rfl) O.m_Ldraw O.F_Ldraw.kp O.b_Ldraw .nil pass0 (pa_cons (pv 0) (pa_cons (pe_op op_sub (pe_op op_add (pv 2) pe_int) (pv 5)) pa_nil))))))
  (C8.pss_cut (ps_if (PW.pt (pw_and (pt_cmpR op_gt (pv 4) pe_int (nomark _)) (pw_and1 (pt_val (pv 3))))) (pss_cons (ps_set (i := 6) sc_Lrule.nd rfl (Or.inl rfl) (pe_ifExp (pt_cmpR op_eq (pe_call (ok_Ldraw T O) (hr.mono (by decide)) (by rfl) O.m_Ldraw O.F_Ldraw.kp O.b_Ldraw .nil pass0 (pa_cons (pv 0) (pa_cons pe_int pa_nil))) pe_int (nomark _)) (pe_op op_sub (pv 4) pe_int) (pe_call (ok_Ldraw T O) (hr.mono (by decide)) (by rfl) O.m_Ldraw O.F_Ldraw.kp O.b_Ldraw .nil pass0 (pa_cons (pv 0) (pa_cons (pv 4) pa_nil)))))
  (pss_one (ps_set (i := 5) sc_Lrule.nd rfl (Or.inl rfl) (pe_callB (r := Jv.rMin2) (call_min2 rfl) (by rfl) O.z_min (by decide +kernel) (pa_cons (pv 5) (pa_cons (pv 6) pa_nil)))))) pss_nil)
  (pss_cons (ps_setLc (i := 7) (own := [("_law_place", 9)]) (by rfl) sc_Lrule.nd rfl rfl (sw_true rfl rfl rfl (by decide +kernel)) (pi_range1 (by rfl) O.z_range (pa_cons pe_int pa_nil)) (blkOk_by (own := [("_law_place", 9)]) (N := ["_law_hand_here", "_law_names_here", "_law_ladder", "_law_guarded", "_law_word", "_law_low", "_law_high", "_law_asked_here", "_law_side", "_law_place"]) (sc := defScope s_Lrule) (scope := ({ kind := .function, names := [(".0", .local), ("_law_place", .local), ("_law_asked", .globalImplicit), ("_law_hand_here", .free), ("_law_ladder", .free)], isGenerator := false, isCoroutine := false } : Scope)) (by decide +kernel)) (fun _ _ _ _ _ => (pg_name (i := 9) sc_Lrule.nd rfl (Or.inl rfl))) (fun _ _ _ _ _ => pts_nil) (fun _ _ _ _ _ => (pe_call (ok_Lasked T O) (hr.mono (by decide)) (by rfl) O.m_Lasked O.F_Lasked.kp O.b_Lasked .nil pass0 (pa_cons (pv 0) (pa_cons (pv 2) pa_nil)))))
  (pss_cons (ps_set (i := 8) sc_Lrule.nd rfl (Or.inl rfl) (pe_call (ok_Lpick T O) (hr.mono (by decide)) (by rfl) O.m_Lpick O.F_Lpick.kp O.b_Lpick .nil pass0 (pa_cons (pv 0) (pa_cons (pe_lst (pa_cons pe_non (pa_cons pe_non (pa_cons pe_int (pa_cons pe_int pa_nil))))) pa_nil))))
  (pss_one (ps_ret (pe_tup (pa_cons (pv 4) (pa_cons (pe_call (ok_Ltests T O) (hr.mono (by decide)) (by rfl) O.m_Ltests O.F_Ltests.kp O.b_Ltests .nil pass0 (pa_cons (pv 0) (pa_cons (pv 1) pa_nil))) (pa_cons (pe_ix (r := rIxL K) ix_list (pv 7) pe_int (fun _ _ => rfl)) (pa_cons (pe_ix (r := rIxL K) ix_list (pv 7) pe_int (fun _ _ => rfl)) (pa_cons (pe_ix (r := rIxL K) ix_list (pv 7) pe_int (fun _ _ => rfl)) (pa_cons (pv 5) (pa_cons (pv 6) (pa_cons (pv 8) pa_nil))))))))))))))))), ?_⟩
  walk_at "r"
  refine ⟨p, l, _, rfl, hh, ⟨by omega, Jv.log_small (by omega) (by omega)⟩, fun wd H1 w0 w1 kp1 hh1 => ?_⟩
  walk_at "r"
  refine ⟨fun σ H' => ∃ lo : Int, σ = [some (.ref p), some (.ref r), some (.int L), some (.bl gd), some (.int wd), some (.int lo), none, none, none, none] ∧ Jv.Kp p H H' ∧ Jv.Hand H' p l ∧ 0 ≤ lo ∧ lo ≤ L, ?_, ?_⟩
  · walk_at "r"
    refine ⟨p, l, 3, rfl, hh1, ⟨by decide, Jv.log_small (by decide) (by decide)⟩, fun c H2 c0 c1 kp2 hh2 => ?_⟩
    walk_at "r"
    refine Jv.r_decI (fun hc => ?_) (fun hc => ?_)
    · walk_at "r"
      refine ⟨p, l, _, rfl, hh2, ⟨by omega, Jv.log_small (by omega) (by omega)⟩, fun lo H3 a0 a1 kp3 hh3 => ?_⟩
      walk_at "r"
      exact ⟨lo, rfl, kp1.trans (kp2.trans kp3), hh3, a0, by omega⟩
    · walk_at "r"
      exact ⟨0, rfl, kp1.trans kp2, hh2, by decide, hL.1⟩
  clear hh1 kp1 H1
  rintro σ H1 ⟨lo, rfl, kp1, hh1, l0, l1⟩
  walk_at "r"
  refine ⟨fun σ H' => ∃ hi : Option Int, σ = [some (.ref p), some (.ref r), some (.int L), some (.bl gd), some (.int wd), some (.int lo), some (oI hi), none, none, none] ∧ Jv.Kp p H H' ∧ Jv.Hand H' p l ∧ ∀ h, hi = some h → lo ≤ h ∧ h ≤ 6, ?_, ?_⟩
  · walk_at "r"
    refine ⟨p, l, 2, rfl, hh1, ⟨by decide, Jv.log_small (by decide) (by decide)⟩, fun c H2 c0 c1 kp2 hh2 => ?_⟩
    walk_at "r"
    refine Jv.r_decI (fun hc => ?_) (fun hc => ?_)
    · walk_at "r"
      exact ⟨none, rfl, kp1.trans kp2, hh2, fun h e => by cases e⟩
    · walk_at "r"
      refine ⟨p, l, _, rfl, hh2, ⟨by omega, Jv.log_small (by omega) (by omega)⟩, fun b H3 b0 b1 kp3 hh3 => ?_⟩
      walk_at "r"
      exact ⟨some (lo + b), rfl, kp1.trans (kp2.trans kp3), hh3, fun h e => by cases e; omega⟩
  clear hh1 kp1 H1
  rintro σ H1 ⟨hi, rfl, kp1, hh1, hhi⟩
  walk_at "r"
  refine ⟨fun σ H' => ∃ (lo : Int) (hi : Option Int), σ = [some (.ref p), some (.ref r), some (.int L), some (.bl gd), some (.int wd), some (.int lo), some (oI hi), none, none, none] ∧ Jv.Kp p H H' ∧ Jv.Hand H' p l ∧ 0 ≤ lo ∧ lo ≤ 6 ∧ ∀ h, hi = some h → lo ≤ h ∧ h ≤ 6, ?_, ?_⟩
  · walk_at "r"
    refine Jv.r_dec (fun hc => ?_) (fun hc => ?_)
    · cases gd with
      | false =>
        walk_at "r"
        exact ⟨lo, hi, rfl, kp1, hh1, l0, by omega, hhi⟩
      | true =>
        walk_at "r"
        refine ⟨p, l, 2, rfl, hh1, ⟨by decide, Jv.log_small (by decide) (by decide)⟩, fun c H2 c0 c1 kp2 hh2 => ?_⟩
        walk_at "r"
        refine Jv.r_decI (fun hc => ?_) (fun hc => ?_)
        · walk_at "r"
          exact ⟨_, some (wd - 1), rfl, kp1.trans kp2, hh2, by split <;> omega, by split <;> omega, fun h e => by cases e; split <;> omega⟩
        · walk_at "r"
          refine ⟨p, l, _, rfl, hh2, ⟨by omega, Jv.log_small (by omega) (by omega)⟩, fun b H3 b0 b1 kp3 hh3 => ?_⟩
          walk_at "r"
          exact ⟨_, some b, rfl, kp1.trans (kp2.trans kp3), hh3, by split <;> omega, by split <;> omega, fun h e => by cases e; split <;> omega⟩
    · walk_at "r"
      exact ⟨lo, hi, rfl, kp1, hh1, l0, by omega, hhi⟩
  clear hh1 kp1 H1 hhi hi l0 l1 lo
  rintro σ H1 ⟨lo, hi, rfl, kp1, hh1, l0, l1, hhi⟩
  walk_at "r"
  refine Jv.lcKpR (j := 9) (by decide) (by decide) hh1 (fun _ _ v => ∃ d, Cnd d ∧ ∀ (K : PySem.W.Frag) G, Jv.Dv K G v d) (fun _ _ _ _ _ h => h) (fun i v D Hx hi kx hx' hD nD eD PP hP => ?_) (fun D ys H2 k2 hh2 hD nD eD ln al => ?_)
  · walk_at "r"
    exact ⟨p, l, L, rfl, hx', hL, fun u d H3 k3 h3 cd dv => hP u H3 k3 h3 ⟨d, cd, dv⟩⟩
  obtain ⟨y0, y1, y2, rfl⟩ : ∃ y0 y1 y2, ys = [y0, y1, y2] := len3 ln
  obtain ⟨a0, ca0, va0⟩ := al 0 y0 rfl
  obtain ⟨a1, ca1, va1⟩ := al 1 y1 rfl
  obtain ⟨a2, ca2, va2⟩ := al 2 y2 rfl
  have er2 := (kp1.trans k2) _ _ nr er
  have kp02 := kp1.trans k2
  clear al k2 kp1 hh1
  walk_at "r"
  intro g hg
  have ng := hh2.ne2 hg
  have s3 := Jv.same_new (u := .lst [V.non, V.non, V.int 0, V.int 1]) hg
  walk_at "r"
  refine ⟨p, l, g, _, rfl, hh2.same s3, upd_same, ng.1, by simp, fun i v H4 hv kp4 hh4 => ?_⟩
  obtain ⟨d7, v7, c7⟩ : ∃ d7, (∀ (K : PySem.W.Frag) G, Jv.Dv K G v d7) ∧ (d7 = .none ∨ d7 = .int 0 ∨ d7 = .int 1) := by
    have m := List.mem_of_getElem? hv
    simp only [List.mem_cons, List.not_mem_nil, or_false] at m
    rcases m with rfl | rfl | rfl | rfl
    · exact ⟨.none, fun _ _ => .non, .inl rfl⟩
    · exact ⟨.none, fun _ _ => .non, .inl rfl⟩
    · exact ⟨.int 0, fun _ _ => .int _, .inr (.inl rfl)⟩
    · exact ⟨.int 1, fun _ _ => .int _, .inr (.inr rfl)⟩
  have kp24 : Jv.Kp p H2 H4 := (Jv.Kp.same s3).trans kp4
  have er4 := kp24 _ _ nr er2
  have eD4 := kp24 _ _ nD eD
  walk_at "r"
  refine ⟨p, l, r, ss, rfl, hh4, nr, er4, nm, fun u d1 H5 kp5 hh5 tok dv1 => ?_⟩
  have eD5 := kp5 _ _ nD eD4
  walk_at "r"
  intro t ht
  refine q _ [.int wd, d1, a0, a1, a2, .int lo, oD hi, d7] _ (kp02.trans (kp24.trans (kp5.trans (Jv.Kp.new ht)))) (hh5.same (Jv.same_new ht)) ⟨wd, d1, a0, a1, a2, lo, oD hi, d7, ⟨rfl, ⟨w0, by omega⟩, tok.ok, tok.nrm, tok.few, tok.shp, ca0, ca1, ca2, ⟨l0, l1⟩, ?_, c7⟩, tok⟩
    (Jv.dv_new ht (fun b m => by rw [List.mem_singleton.mp m]; exact hh5.at) (.cons (.int wd) (.cons dv1 (.cons (va0 _ _) (.cons (va1 _ _) (.cons (va2 _ _) (.cons (.int lo) (.cons oI_dv (.cons (v7 _ _) .nil)))))))))
  cases hi with
  | none => exact .inl rfl
  | some h => exact .inr ⟨h, rfl, hhi h rfl⟩
end
end K17

namespace K17
open PySem PySem.Spec PyProof.Rows L2
/-! ### a rule made by the law; asked; raised by the law -/
def tst : Option (List PyData) → Bool
  | some [m, lo, hi] => nameD m && (Jv.wholeD lo (.int 0) (.int 40) && Jv.wholeD hi (loV lo) (.int 40))
  | _ => false
theorem test_tst (d : PyData) : testD d = tst (Jv.seqD d) := rfl
theorem deep_same {d e : PyData} {ds es : List PyData} (hd : Jv.seqD d = some ds) (he : Jv.seqD e = some es) (h : es.map Jv.seqD = ds.map Jv.seqD) : testsD e = testsD d ∧ normT e = normT d ∧ (fewTs d → fewTs e) := by
  have ln : es.length = ds.length := by have := congrArg List.length h; rw [List.length_map, List.length_map] at this; exact this
  refine ⟨?_, ?_, fun f => ?_⟩
  · unfold testsD
    rw [hd, he]
    dsimp only
    rw [ln]
    have e1 : es.all testD = (es.map Jv.seqD).all tst := by rw [List.all_map]; rfl
    have e2 : ds.all testD = (ds.map Jv.seqD).all tst := by rw [List.all_map]; rfl
    rw [e1, e2, h]
  · unfold normT
    rw [hd, he]
    have e1 : (es.map fun e => PyData.tuple ((Jv.seqD e).getD [])) = (es.map Jv.seqD).map fun o => PyData.tuple (o.getD []) := by rw [List.map_map]; rfl
    have e2 : (ds.map fun e => PyData.tuple ((Jv.seqD e).getD [])) = (ds.map Jv.seqD).map fun o => PyData.tuple (o.getD []) := by rw [List.map_map]; rfl
    show PyData.tuple _ = PyData.tuple _
    rw [show (some es).getD [] = es from rfl, show (some ds).getD [] = ds from rfl, e1, e2, h]
  · intro es' h'
    rw [he] at h'; cases h'
    obtain ⟨f1, f2⟩ := f _ hd
    refine ⟨by omega, fun x m => ?_⟩
    obtain ⟨i, hi, rfl⟩ := List.mem_iff_getElem.mp m
    have hi2 : i < ds.length := by omega
    have hx : Jv.seqD es[i] = Jv.seqD ds[i] := by
      have := congrArg (fun l => l[i]?) h
      simp only [List.getElem?_map, List.getElem?_eq_getElem hi, List.getElem?_eq_getElem hi2, Option.map_some, Option.some.injEq] at this
      exact this
    intro zs hz
    rw [hx] at hz
    exact f2 _ (List.getElem_mem hi2) zs hz
theorem fault_tests {d0 d e d2 d3 d4 d5 d6 d7 : PyData} (h : testsD e = testsD d) : faultR d0 e d2 d3 d4 d5 d6 d7 = faultR d0 d d2 d3 d4 d5 d6 d7 := by
  unfold faultR faultW
  rw [h]
theorem hand_kpx {H H' : Hp} {p l x : Addr} (h : Jv.Hand H p l) (k : Jv.Kp x H H') (n : x ≠ p ∧ x ≠ l) : Jv.Hand H' p l := by
  obtain ⟨ns, a, c, t, hA⟩ := h
  exact ⟨ns, a, c, t, k _ _ (Ne.symm n.1) hA.hp, k _ _ (Ne.symm n.2) hA.hl, hA.nn, hA.few, hA.bd⟩
theorem all8v {K : PySem.W.Frag} {H : Hp} {vs : List V} {d0 d1 d2 d3 d4 d5 d6 d7 : PyData} (al : Jv.DvAll K H vs [d0, d1, d2, d3, d4, d5, d6, d7]) : ∃ v0 v1 v2 v3 v4 v5 v6 v7, vs = [v0, v1, v2, v3, v4, v5, v6, v7] ∧
    Jv.Dv K H v0 d0 ∧ Jv.Dv K H v1 d1 ∧ Jv.Dv K H v2 d2 ∧ Jv.Dv K H v3 d3 ∧ Jv.Dv K H v4 d4 ∧ Jv.Dv K H v5 d5 ∧ Jv.Dv K H v6 d6 ∧ Jv.Dv K H v7 d7 := by
  cases al with | cons a0 al => cases al with | cons a1 al => cases al with | cons a2 al => cases al with | cons a3 al => cases al with | cons a4 al => cases al with | cons a5 al => cases al with | cons a6 al => cases al with | cons a7 al => cases al; exact ⟨_, _, _, _, _, _, _, _, rfl, a0, a1, a2, a3, a4, a5, a6, a7⟩
theorem tup_at {K : PySem.W.Frag} {H : Hp} {x : V} {ds : List PyData} (h : Jv.Dv K H x (.tuple ds)) : ∃ t xs, x = .ref t ∧ SqT K H t xs ∧ Jv.DvAll K H xs ds := by
  cases h with
  | tup h q => exact ⟨_, _, rfl, h, q⟩
def sp_Lmade (K : PySem.W.Frag) (C : Addr) : Sp := fun vs H Q _ => ∃ p l x ds, vs = [.ref p, x] ∧ Jv.Hand H p l ∧ Jv.Dv K (Jv.hide [p] H) x (.tuple ds) ∧ RuleD ds ∧
  ∀ r H', Jv.Kp p H H' → Jv.Hand H' p l → H r = none → RAt K (Jv.hide [p] H') C r ds → Q (.ref r) H'
def sp_Lis_rule (K : PySem.W.Frag) (C : Addr) : Sp := fun vs H Q _ => ∃ a x ds, vs = [.ref a, x] ∧ RAt K H C a ds ∧ Jv.Dv K H x (.tuple ds) ∧ Pl 3 (.tuple ds) ∧ ∀ H', Same H H' → Q (.bl true) H'
def sp_Lup (K : PySem.W.Frag) : Sp := fun vs H Q _ => ∃ x d b, vs = [x, .int b] ∧ Jv.Dv K H x d ∧ ∀ v, Jv.Dv K H v (upD b d) → Q v H
def sp_Lraised (K : PySem.W.Frag) : Sp := fun vs H Q _ => ∃ x ds b, vs = [x, .int b] ∧ Jv.Dv K H x (.tuple ds) ∧ RuleD ds ∧ 0 ≤ b ∧ (bigAny b ds = true → ∀ H', Same H H' → Q .non H') ∧
  (bigAny b ds = false → ∀ v H', Same H H' → Jv.Dv K H' v (.tuple (raiseD b ds)) → Q v H')
section
variable {P : Program} {w : World} {K : PySem.W.Frag} {mg : Str → Option Value} {base : Heap}
theorem ok_Lup (T : Tx) (O : Ok K mg T) : FnOk P w K mg base CX0 2 T.f_Lup T.d_Lup ["_law_word", "_law_by"] (sp_Lup K) := by
  refine O.F_Lup.ok sc_Lup (fun vs H Q E h => by obtain ⟨_, _, _, rfl, _⟩ := h; rfl) (fun cdv A outer s H vs Q E hr h => ?_)
  obtain ⟨x, d, b, rfl, hx, q⟩ := h
  refine ⟨_, (pss_one (ps_ret (pe_ifExp (PW.pt (pw_and (pt_val (pe_call (ok_Lwhole T O) (hr.mono (by decide)) (by rfl) O.m_Lwhole O.F_Lwhole.kp O.b_Lwhole .nil pass0 (pa_cons (pv 0) pa_nil))) (pw_and1 (pt_cmpR op_gt (pv 0) pe_int (nomark _))))) (pe_op op_add (pv 0) (pv 1)) (pv 0)))), ?_⟩
  walk_at "r"
  refine ⟨x, d, rfl, hx, ?_⟩
  have hx2 := hx
  cases hx2 with
  | int i =>
    walk_at "r"
    refine Jv.r_dec (fun h1 => ?_) (fun h1 => ?_)
    · have q2 := q (.int (i + b)) (by rw [up_ge (by omega)]; exact .int _)
      walk_at "r"
      exact q2
    · have q2 := q (.int i) (by rw [up_lt (by omega)]; exact .int _)
      walk_at "r"
      exact q2
  | _ =>
    have q2 := q _ hx
    walk_at "r"
    exact q2
theorem ok_Lmade (T : Tx) (O : Ok K mg T) : FnOk P w K mg base CX0 7 T.f_Lmade T.d_Lmade ["_law_hand_here", "_law_rule_here"] (sp_Lmade K T.C_Rule) := by
  refine O.F_Lmade.ok sc_Lmade (fun vs H Q E h => by obtain ⟨_, _, _, _, rfl, _⟩ := h; rfl) (fun cdv A outer s H vs Q E hr h => ?_)
  obtain ⟨p, l, x, ds, rfl, hh, hx, ⟨wd, d1, d2, d3, d4, lo, d6, d7, gr, tok⟩, q⟩ := h
  refine ⟨_, (pss_cons (ps_set (i := 2) sc_Lmade.nd rfl (Or.inl rfl) (pe_call (ok_Ldeep T O) (hr.mono (by decide)) (by rfl) O.m_Ldeep O.F_Ldeep.kp O.b_Ldeep .nil pass0 (pa_cons (pv 0) (pa_cons (pe_ix (r := rIxT K) ix_tup (pv 1) pe_int (fun _ _ => rfl)) pa_nil))))
  (pss_one (ps_ret (pe_make (E := E0) O.k_Rule (ok_Ruleu_initu T O) (hr.mono (by decide)) (by rfl) O.m_Rule O.b_Ruleu_initu .nil passL (pa_cons (pe_ix (r := rIxT K) ix_tup (pv 1) pe_int (fun _ _ => rfl)) (pa_cons (pv 2) (pa_cons (pe_ix (r := rIxT K) ix_tup (pv 1) pe_int (fun _ _ => rfl)) (pa_cons (pe_ix (r := rIxT K) ix_tup (pv 1) pe_int (fun _ _ => rfl)) (pa_cons (pe_ix (r := rIxT K) ix_tup (pv 1) pe_int (fun _ _ => rfl)) (pa_cons (pe_ix (r := rIxT K) ix_tup (pv 1) pe_int (fun _ _ => rfl)) (pa_cons (pe_ix (r := rIxT K) ix_tup (pv 1) pe_int (fun _ _ => rfl)) (pa_cons (pe_ix (r := rIxT K) ix_tup (pv 1) pe_int (fun _ _ => rfl)) pa_nil)))))))))))), ?_⟩
  have ge := gr.eq
  subst ge
  obtain ⟨t, xs, rfl, sq, al⟩ := tup_at hx
  obtain ⟨x0, x1, x2, x3, x4, x5, x6, x7, rfl, v0, v1, v2, v3, v4, v5, v6, v7⟩ := all8v al
  obtain ⟨ts, ets, lts, _⟩ := tok.tup
  walk_at "r"
  refine Jv.r_ixT (Jv.Same.sqT Jv.hide_le sq) (v := x1) rfl ?_
  refine ⟨p, l, x1, d1, ts.map tD, rfl, hh, v1, by rw [ets]; rfl, by rw [List.length_map]; omega, fun e m => ?_, fun u e es H1 kp1 hh1 he hm dve => ?_⟩
  · obtain ⟨tt, _, rfl⟩ := List.mem_map.mp m
    rfl
  obtain ⟨t1, t2, t3⟩ := deep_same (d := d1) (by rw [ets]; rfl) he hm
  have S1 := Jv.Kp.hide kp1
  have sq1 := Jv.Same.sqT Jv.hide_le (Jv.Same.sqT S1 sq)
  have al1 := al.same S1
  walk_at "r"
  refine Jv.r_make0 ?_
  walk_at "r"
  intro y dy hy hdy ne
  obtain ⟨z0, z1, z2, z3, z4, z5, z6, z7, ez, w0, w1, w2, w3, w4, w5, w6, w7⟩ := all8v al1
  simp only [List.cons.injEq, and_true] at ez
  obtain ⟨rfl, rfl, rfl, rfl, rfl, rfl, rfl, rfl⟩ := ez
  have sm : Same H1 (L2.upd (L2.upd H1 dy (.own y)) y (.ins T.C_Rule dy [])) := fun b o hb => by
    rw [upd_ne (ne_of_none hb hy), upd_ne (ne_of_none hb hdy)]; exact hb
  have S2 := Jv.hide_same (N := [p]) sm
  have hh2 := hh1.same sm
  refine ⟨y, dy, _, _, _, _, _, _, _, _, _, _, _, _, _, _, _, _, [p], rfl, upd_same, hh2.lst, .cons (w0.same S2) (.cons (dve.same S2) (.cons (w2.same S2) (.cons (w3.same S2) (.cons (w4.same S2) (.cons (w5.same S2) (.cons (w6.same S2) (.cons (w7.same S2) .nil))))))), t3 tok.few, gr.c2.shaped, gr.c3.shaped, gr.c4.shaped, .inr ⟨(fault_tests t1).trans gr.ok, fun H' kp ra => ⟨rfl, ?_⟩⟩⟩
  rw [t2, tok.nrm] at ra
  refine q y H' (fun b o nb hb => kp b o (ne_of_none (kp1 b o nb hb) hy) (sm b o (kp1 b o nb hb))) (hand_kpx hh2 kp (hh1.ne2 hy)) (Jv.Kp.free kp1 hh1 hy) ra
theorem ok_Lis_rule (T : Tx) (O : Ok K mg T) : FnOk P w K mg base CX0 6 T.f_Lis_rule T.d_Lis_rule ["_law_told", "_law_rule_here"] (sp_Lis_rule K T.C_Rule) := by
  refine O.F_Lis_rule.ok sc_Lis_rule (fun vs H Q E h => by obtain ⟨_, _, _, rfl, _⟩ := h; rfl) (fun cdv A outer s H vs Q E hr h => ?_)
  obtain ⟨a, x, ds, rfl, ha, hx, pl, q⟩ := h
  refine ⟨_, (pss_cons (ps_if (pt_not (pt_val (pe_callB (r := rIsi K) call_isi (by rfl) O.z_isinstance (by decide +kernel) (pa_cons (pv 0) (pa_cons (pe_glob (v := .ref _) (by rfl) O.m_Rule rfl) pa_nil))))) (pss_one (ps_ret pe_bl)) pss_nil)
  (pss_cons (ps_set (i := 2) sc_Lis_rule.nd rfl (Or.inl rfl) (pe_tup (pa_cons (show PE _ _ (tFld K _ _) from pe_fld (pv 0) rfl) (pa_cons (show PE _ _ (tFld K _ _) from pe_fld (pv 0) rfl) (pa_cons (show PE _ _ (tFld K _ _) from pe_fld (pv 0) rfl) (pa_cons (show PE _ _ (tFld K _ _) from pe_fld (pv 0) rfl) (pa_cons (show PE _ _ (tFld K _ _) from pe_fld (pv 0) rfl) (pa_cons (show PE _ _ (tFld K _ _) from pe_fld (pv 0) rfl) (pa_cons (show PE _ _ (tFld K _ _) from pe_fld (pv 0) rfl) (pa_cons (show PE _ _ (tFld K _ _) from pe_fld (pv 0) rfl) pa_nil))))))))))
  (pss_one (ps_ret (pe_call (ok_Lsame T O 4) (hr.mono (by decide)) (by rfl) O.m_Lsame O.F_Lsame.kp O.b_Lsame .nil pass0 (pa_cons (pv 2) (pa_cons (pv 1) pa_nil))))))), ?_⟩
  obtain ⟨dx, v0, v1, v2, v3, v4, v5, v6, v7, hA, al⟩ := id ha
  walk_at "r"
  refine ⟨_, _, _, _, true, rfl, .own T.C_Rule, .base (.ins hA O.o_Rule O.i_Rule_ca O.i_Rule_cn O.i_Rule_ct O.i_Rule_cm), by simp [PySem.W.kitOne], ?_⟩
  walk_at "r"
  refine Jv.r_fld ?_
  walk_at "r"
  refine ⟨a, _, dx, _, _, rfl, hA, O.o_Rule, O.n_Rule_word, rfl, ?_⟩
  walk_at "r"
  refine Jv.r_fld ?_
  walk_at "r"
  refine ⟨a, _, dx, _, _, rfl, hA, O.o_Rule, O.n_Rule_tests, rfl, ?_⟩
  walk_at "r"
  refine Jv.r_fld ?_
  walk_at "r"
  refine ⟨a, _, dx, _, _, rfl, hA, O.o_Rule, O.n_Rule_own, rfl, ?_⟩
  walk_at "r"
  refine Jv.r_fld ?_
  walk_at "r"
  refine ⟨a, _, dx, _, _, rfl, hA, O.o_Rule, O.n_Rule_other, rfl, ?_⟩
  walk_at "r"
  refine Jv.r_fld ?_
  walk_at "r"
  refine ⟨a, _, dx, _, _, rfl, hA, O.o_Rule, O.n_Rule_foe, rfl, ?_⟩
  walk_at "r"
  refine Jv.r_fld ?_
  walk_at "r"
  refine ⟨a, _, dx, _, _, rfl, hA, O.o_Rule, O.n_Rule_low, rfl, ?_⟩
  walk_at "r"
  refine Jv.r_fld ?_
  walk_at "r"
  refine ⟨a, _, dx, _, _, rfl, hA, O.o_Rule, O.n_Rule_high, rfl, ?_⟩
  walk_at "r"
  refine Jv.r_fld ?_
  walk_at "r"
  refine ⟨a, _, dx, _, _, rfl, hA, O.o_Rule, O.n_Rule_side, rfl, ?_⟩
  walk_at "r"
  intro t ht
  have s1 := Jv.same_new (u := .tup [v0, v1, v2, v3, v4, v5, v6, v7]) ht
  walk_at "r"
  exact ⟨.ref t, x, .tuple ds, rfl, pl, .tup (Jv.sqT_at upd_same) (al.same s1), hx.same s1, fun H' s' => q _ (s1.trans s')⟩
end
end K17

namespace Jv
open PySem PySem.Spec PyProof.Rows L2
section
variable {K : PySem.W.Frag} {σ : L2.St} {H : Hp} {te te0 : TE} {Q : VK} {xs : List V} {j : Nat}
theorem lcDL (hit : ∀ P : VK, (∀ t H1, Same H H1 → SqL K H1 t xs → P (.ref t) H1) → te0 σ H P) (es : List PyData) (hl : es.length = xs.length) (few : xs.length ≤ 1000)
    (hs : ∀ i v e D H1, i < xs.length → xs[i]? = some v → es[i]? = some e → Same H H1 → ∀ P : VK, (∀ y H2, Same H1 H2 → Dv K (hide [D] H2) y e → P y H2) → te ((σ.set j none).set j (some v)) H1 P)
    (hd : ∀ D ys H1, Same H H1 → H1 D = some (.lst ys) → DvAll K H1 ys es → Q (.ref D) H1) : tLc (iList K te0) (gName j) tYes te [j] σ H Q :=
  hit _ fun t H1 s1 sq => ⟨t, rfl, ⟨_, sq⟩, lcD walk_list (fun _ s => s.seq sq) yat .nil es hl few (fun i v e D H2 hi hv he s2 _ _ P hP => hs i v e D H2 hi hv he (s1.trans s2) P hP) fun D ys H2 s2 _ e al _ => hd D ys H2 (s1.trans s2) e (by rw [hide_nil] at al; exact al)⟩
end
end Jv
namespace K17
open PySem PySem.Spec PyProof.Rows L2
/-! ### raised by the law; by the program -/
def sp_Lraise (K : PySem.W.Frag) (C : Addr) : Sp := fun vs H Q _ => ∃ a x dx ds, vs = [.ref a, x] ∧ RAt K H C a ds ∧ GRd ds ∧ Jv.Dv K H x dx ∧
  ((∃ b, dx = .int b ∧ 0 ≤ b ∧ b ≤ 6 ∧ bigAny b ds = false ∧ ∀ r H', Same H H' → RAt K H' C r (raiseD b ds) → Q (.ref r) H') ∨
   ((Jv.wholeD dx (.int 0) (.int 6) = false ∨ ∃ b, dx = .int b ∧ 0 ≤ b ∧ b ≤ 6 ∧ bigAny b ds = true) ∧ ∀ H', Same H H' → Q (.str (Str.ofString "refused")) H'))
section
variable {P : Program} {w : World} {K : PySem.W.Frag} {mg : Str → Option Value} {base : Heap}
theorem ok_Lraise (T : Tx) (O : Ok K mg T) : FnOk P w K mg base CX0 8 T.f_Lraise T.d_Lraise ["_law_made_here", "_law_by"] (sp_Lraise K T.C_Rule) := by
  refine O.F_Lraise.ok sc_Lraise (fun vs H Q E h => by obtain ⟨_, _, _, _, rfl, _⟩ := h; rfl) (fun cdv A outer s H vs Q E hr h => ?_)
  obtain ⟨a, x, dx, ds, rfl, ha, hg, hx, q⟩ := h
  refine ⟨_, (pss_one (ps_try_as (i := 2) rfl rfl sc_Lraise.nd rfl rfl ⟨rfl, by decide, .inl O.m_BadRaise⟩ takes0 (fun W pn xe tk _ => (pss_one (ps_ret (Jv.pe_methX (pv 0) O.o_Rule O.h_Rule_raised (ok_Rule_raised T O) (hr.mono (by decide)) O.b_Rule_raised .nil (fun σ => passAt tk σ) (pa_cons (pv 1) pa_nil))))) (fun a oe cls d pn hz hf => (pss_one (ps_ret (pe_ifExp (pt_val (pe_callB (r := Jv.rIsX K a cls d) (Jv.call_isX hz hf) (by rfl) O.z_isinstance (by decide +kernel) (pa_cons (pv 2) (pa_cons (pe_glob (v := .ref _) (by rfl) O.m_CallError rfl) pa_nil)))) pe_str pe_non)))))), ?_⟩
  obtain ⟨dd, u0, u1, u2, u3, u4, u5, u6, u7, hA, _⟩ := id ha
  walk_at "r"
  refine Jv.r_methC ?_
  walk_at "r"
  refine ⟨a, dd, _, rfl, hA, rfl, ?_⟩
  walk_at "r"
  refine ⟨a, x, dx, ds, rfl, ha, hg, hx, ?_⟩
  rcases q with ⟨b, rfl, b0, b6, n, k⟩ | ⟨n, k⟩
  · exact .inl ⟨b, rfl, b0, b6, n, fun r H1 s1 _ ra => k r H1 s1 ra⟩
  · refine .inr ⟨n, fun H1 s1 => ?_⟩
    refine ⟨true, O.e_BadRaise.e, fun _ a ha => ?_, fun z => nomatch z⟩
    have xi : Jv.XiC K T.C_BadRaise := ⟨O.e_BadRaise.i, O.i_BadRaise_ga, O.i_BadRaise_gg, O.e_BadRaise.b, O.i_BadRaise_xca, O.i_Rule_cn, O.i_Rule_ct, O.i_BadRaise_mr⟩
    walk_at "r"
    refine ⟨T.C_BadRaise, .ref T.C_CallError, _, true, rfl, rfl, xi, rfl, .own _, O.i_BadRaise_xc, ?_⟩
    walk_at "r"
    exact k _ s1
theorem ok_Lraised (T : Tx) (O : Ok K mg T) : FnOk P w K mg base CX0 3 T.f_Lraised T.d_Lraised ["_law_rule_here", "_law_by"] (sp_Lraised K) := by
  refine O.F_Lraised.ok sc_Lraised (fun vs H Q E h => by obtain ⟨_, _, _, rfl, _⟩ := h; rfl) (fun cdv A outer s H vs Q E hr h => ?_)
  obtain ⟨x, ds, b, rfl, hx, ⟨wd, d1, d2, d3, d4, lo, d6, d7, gr, tok⟩, b0, qt, qf⟩ := h
  refine ⟨_, (pss_cons (ps_asg (pv 0) (pg_tup rfl (pgs_cons (pg_name (i := 2) sc_Lraised.nd rfl (Or.inl rfl)) (pgs_cons (pg_name (i := 3) sc_Lraised.nd rfl (Or.inl rfl)) (pgs_cons (pg_name (i := 4) sc_Lraised.nd rfl (Or.inl rfl)) (pgs_cons (pg_name (i := 5) sc_Lraised.nd rfl (Or.inl rfl)) (pgs_cons (pg_name (i := 6) sc_Lraised.nd rfl (Or.inl rfl)) (pgs_cons (pg_name (i := 7) sc_Lraised.nd rfl (Or.inl rfl)) (pgs_cons (pg_name (i := 8) sc_Lraised.nd rfl (Or.inl rfl)) (pgs_cons (pg_name (i := 9) sc_Lraised.nd rfl (Or.inl rfl)) pgs_nil))))))))))
  (pss_cons (ps_setLc (i := 10) (own := [("_law_asked_here", 12)]) (by rfl) sc_Lraised.nd rfl rfl (sw_true rfl rfl rfl (by decide +kernel)) (show PI _ _ _ (iList K _) from pi_list (pe_lst (pa_cons (pv 2) (pa_cons (pv 4) (pa_cons (pv 5) (pa_cons (pv 6) (pa_cons (pv 7) pa_nil))))))) (blkOk_by (own := [("_law_asked_here", 12)]) (N := ["_law_rule_here", "_law_by", "_law_word", "_law_tests_here", "_law_own", "_law_other_here", "_law_foe", "_law_low", "_law_high", "_law_side", "_law_raised_here", "_law_top", "_law_asked_here"]) (sc := defScope s_Lraised) (scope := ({ kind := .function, names := [(".0", .local), ("_law_asked_here", .local), ("_law_up", .globalImplicit), ("_law_by", .free)], isGenerator := false, isCoroutine := false } : Scope)) (by decide +kernel)) (fun _ _ _ _ _ => (pg_name (i := 12) sc_Lraised.nd rfl (Or.inl rfl))) (fun _ _ _ _ _ => pts_nil) (fun _ _ _ _ _ => (pe_call (ok_Lup T O) (hr.mono (by decide)) (by rfl) O.m_Lup O.F_Lup.kp O.b_Lup .nil pass0 (pa_cons (pv 12) (pa_cons (pv 1) pa_nil)))))
  (pss_cons (ps_if (pt_val (pe_callB (r := rAny K) (cr_any rfl) (by rfl) O.z_any (by decide +kernel) (pa_cons (pe_lc (own := [("_law_asked_here", 12)]) (by rfl) sc_Lraised.nd (show PI _ _ _ (iList K _) from pi_list (pv 10)) (blkOk_by (own := [("_law_asked_here", 12)]) (N := ["_law_rule_here", "_law_by", "_law_word", "_law_tests_here", "_law_own", "_law_other_here", "_law_foe", "_law_low", "_law_high", "_law_side", "_law_raised_here", "_law_top", "_law_asked_here"]) (sc := defScope s_Lraised) (scope := ({ kind := .function, names := [(".0", .local), ("_law_asked_here", .local), ("_law_whole", .globalImplicit)], isGenerator := false, isCoroutine := false } : Scope)) (by decide +kernel)) (fun _ _ _ _ _ => (pg_name (i := 12) sc_Lraised.nd rfl (Or.inl rfl))) (fun _ _ _ _ _ => pts_nil) (fun _ _ _ _ _ => (pe_and (pe_call (ok_Lwhole T O) (hr.mono (by decide)) (by rfl) O.m_Lwhole O.F_Lwhole.kp O.b_Lwhole .nil pass0 (pa_cons (pv 12) pa_nil)) (pe_one (pe_cmpR op_gt (pv 12) pe_int (nomark _)))))) pa_nil))) (pss_one (ps_ret pe_non)) pss_nil)
  (pss_cons (ps_set (i := 11) sc_Lraised.nd rfl (Or.inl rfl) (pe_ifExp (pt_cmpR op_isN (pv 8) pe_non (nomark _)) pe_non (pe_callB (r := Jv.rMin2) (call_min2 rfl) (by rfl) O.z_min (by decide +kernel) (pa_cons pe_int (pa_cons (pe_op op_add (pv 8) (pv 1)) pa_nil)))))
  (pss_one (ps_ret (pe_tup (pa_cons (pe_ix (r := rIxL K) ix_list (pv 10) pe_int (fun _ _ => rfl)) (pa_cons (pv 3) (pa_cons (pe_ix (r := rIxL K) ix_list (pv 10) pe_int (fun _ _ => rfl)) (pa_cons (pe_ix (r := rIxL K) ix_list (pv 10) pe_int (fun _ _ => rfl)) (pa_cons (pe_ix (r := rIxL K) ix_list (pv 10) pe_int (fun _ _ => rfl)) (pa_cons (pe_ix (r := rIxL K) ix_list (pv 10) pe_int (fun _ _ => rfl)) (pa_cons (pv 11) (pa_cons (pv 9) pa_nil))))))))))))))), ?_⟩
  have ge := gr.eq
  subst ge
  obtain ⟨t, xs, rfl, sq, al⟩ := tup_at hx
  obtain ⟨x0, x1, x2, x3, x4, x5, x6, x7, rfl, v0, v1, v2, v3, v4, v5, v6, v7⟩ := all8v al
  walk_at "r"
  have flat5 : ∀ d ∈ [PyData.int wd, d2, d3, d4, .int lo], Jv.seqD d = none := fun d m => by
    simp only [List.mem_cons, List.not_mem_nil, or_false] at m
    rcases m with rfl | rfl | rfl | rfl | rfl
    · rfl
    · exact gr.c2.flat
    · exact gr.c3.flat
    · exact gr.c4.flat
    · rfl
  have al5 : Jv.DvAll K H [x0, x2, x3, x4, x5] [PyData.int wd, d2, d3, d4, .int lo] := .cons v0 (.cons v2 (.cons v3 (.cons v4 (.cons v5 .nil))))
  refine Jv.lcDL (K := K) (j := 12) (xs := [x0, x2, x3, x4, x5]) (fun PP hP => ?_) ([PyData.int wd, d2, d3, d4, .int lo].map (upD b)) rfl (by simp) (fun i v e D H1 hi hv he s1 PP hP => ?_) (fun D ys H1 s1 eD dv => ?_)
  · walk_at "r"
    intro t ht
    exact hP t _ (Jv.same_new ht) (Jv.sqL_at upd_same)
  · obtain ⟨dv', hdv, dvv⟩ := al5.at hv
    rw [List.getElem?_map, hdv] at he
    cases he
    walk_at "r"
    exact ⟨v, dv', b, rfl, dvv.same s1, fun u hu => hP u _ (Same.refl _) (hu.flat (up_flat (flat5 _ (List.mem_of_getElem? hdv))))⟩
  walk_at "r"
  refine Jv.lcSL (K := K) (i := 10) (j := 12) (N := []) rfl (Jv.sqL_at eD) .nil ((([PyData.int wd, d2, d3, d4, .int lo].map (upD b)).map bigD).map PyData.bool) (by rw [List.length_map, List.length_map, dv.len]) (by rw [dv.len]; simp) (fun i v e D2 H2 hi hv he s2 _ _ PP hP => ?_) (fun D2 zs H2 s2 hD2 eD2 dv2 _ => ?_)
  · obtain ⟨dv', hdv, dvv⟩ := dv.at hv
    rw [List.getElem?_map, List.getElem?_map, hdv] at he
    cases he
    have fl : Jv.seqD dv' = none := by
      have m := List.mem_of_getElem? hdv
      obtain ⟨d0, m0, rfl⟩ := List.mem_map.mp m
      exact up_flat (flat5 _ m0)
    walk_at "r"
    refine ⟨v, dv', rfl, dvv.same s2, ?_⟩
    have dvf := dvv
    cases dvf with
    | int i =>
      walk_at "r"
      have := hP (.bl (decide (6 < i))) _ (Same.refl _) (by
        have e : bigD (.int i) = decide (6 < i) := by
          unfold bigD
          by_cases h : 6 < i
          · rw [decide_eq_true h]; simp [Jv.wholeD, Jv.loOk, Jv.hiOk]; omega
          · rw [decide_eq_false h]; simp [Jv.wholeD, Jv.loOk, Jv.hiOk]; omega
        rw [e]; exact .bl _)
      exact this
    | lst _ _ => cases fl
    | tup _ _ => cases fl
    | _ =>
      walk_at "r"
      exact hP _ _ (Same.refl _) (.bl _)
  rw [Jv.hide_nil] at dv2
  rw [Jv.dv_bools dv2] at eD2
  walk_at "r"
  refine ⟨D2, _, rfl, Jv.sqL_at eD2, ?_⟩
  rw [show (([PyData.int wd, d2, d3, d4, .int lo].map (upD b)).map bigD).any id = bigAny b [PyData.int wd, d1, d2, d3, d4, .int lo, d6, d7] from rfl]
  have s02 := s1.trans s2
  cases eb : bigAny b [PyData.int wd, d1, d2, d3, d4, .int lo, d6, d7] with
  | true =>
    walk_at "r"
    exact qt eb _ s02
  | false =>
    have k := qf eb
    have eD3 := s2 _ _ eD
    have dv3 := dv.same s2
    obtain ⟨y0, y2, y3, y4, y5, rfl, z0, z2, z3, z4, z5⟩ := all5 (d0 := upD b (.int wd)) (d1 := upD b d2) (d2 := upD b d3) (d3 := upD b d4) (d4 := upD b (.int lo)) dv3
    walk_at "r"
    rw [isN v6]
    have fin : ∀ (u : V), Jv.Dv K H2 u (hiD b d6) → ∀ t2, H2 t2 = none → Q (.ref t2) (upd H2 t2 (.tup [y0, x1, y2, y3, y4, y5, u, x7])) := fun u hu t2 ht2 => by
      have s3 := Jv.same_new (u := .tup [y0, x1, y2, y3, y4, y5, u, x7]) ht2
      exact k _ _ (s02.trans s3) (.tup (Jv.sqT_at upd_same) (.cons (z0.same s3) (.cons (v1.same (s02.trans s3)) (.cons (z2.same s3) (.cons (z3.same s3) (.cons (z4.same s3) (.cons (z5.same s3) (.cons (hu.same s3) (.cons (v7.same (s02.trans s3)) .nil)))))))))
    rcases gr.hi with rfl | ⟨h6, rfl, _, _⟩
    · rw [show noneD .none = true from rfl]
      walk_at "r"
      exact fin .non .non
    · rw [show noneD (.int h6) = false from rfl]
      cases v6
      walk_at "r"
      refine fin _ ?_
      have e : hiD b (.int h6) = .int (if h6 + b < 6 then h6 + b else 6) := by
        show PyData.int (if 6 < h6 + b then 6 else h6 + b) = _
        congr 1
        split <;> split <;> omega
      rw [e]; exact .int _
end
end K17

namespace Jv
open PySem PySem.Spec PyProof.Rows L2
/-- isinstance(e, c): a the caught one, of an own class C, with or without fields -/
def rIsX2 (K : PySem.W.Frag) (a : Addr) (cls : Value) (d : Option Addr) : List V → Hp → VK → Prop := fun xs H Q => ∃ (C : Addr) (c : V) (u : Value) (b : Bool), cls = .ref C ∧ (d = none ∨ ∃ dd fs, d = some dd ∧ H dd = some (.xd fs)) ∧ XiC K C ∧ xs = [.ref a, c] ∧ ClsV c u ∧ PySem.W.kitOne K (.ref C) u = some b ∧ Q (.bl b) H
theorem call_isX2 {X : Cx} {a : Addr} {cls : Value} {d : Option Addr} {oe : Obj} {pn : List (Addr × Obj)} (hz : Zc cls d oe) (hf : ∃ vs, oe.data = .fields vs) : CallR (X.suite a ((a, oe) :: pn)) (.builtin "isinstance") (rIsX2 X.K a cls d) := by
  intro pins s σ H xs us Q I r h
  obtain ⟨C, c, u, b, rfl, hd0, T, rfl, k, e, q⟩ := h
  obtain ⟨u1, u2, rfl, r1, r2⟩ := vals2 r
  have e2 := k.eq r2
  subst e2
  obtain rfl : u1 = Value.ref a := r1
  obtain ⟨ha, _⟩ := I.pin (a, oe) (List.mem_append_left _ List.mem_cons_self)
  obtain ⟨vs, hd⟩ := hf
  obtain ⟨od, J⟩ : ∃ od, PySem.W.InstAt s.heap a oe C od := by
    rcases hd0 with rfl | ⟨dd, fs, rfl, ea⟩
    · exact ⟨none, ha, hz.1, by unfold PySem.W.notCls; rw [hd] <;> rfl, by rw [hz.2]; trivial⟩
    · have hx : ObjOk X.prog X.w H s.heap dd (.xd fs) := I.hok dd _ ea
      obtain ⟨mA, hns, hr⟩ := hx
      obtain ⟨od, ho, hl⟩ := lookIn_ns hns
      exact ⟨some od, ha, hz.1, by unfold PySem.W.notCls; rw [hd] <;> rfl, by rw [hz.2]; exact ho⟩
  exact PySem.W.kia_one (PySem.W.kitx_exc T.cl T.ga T.gg T.ex T.ca T.sp T.tk T.mr) I.kIn J e (fun z => nomatch z) fun tk => ⟨.bl b, H, I.tok tk, rfl, q⟩
end Jv
namespace K17
open PySem PySem.Spec PyProof.Rows L2
/-! ### tries; labels; raises; left out -/
def labelL : List Str := ["word", "tests", "own", "other", "foe", "low", "high", "side"]
def sp_Llabels : Sp := fun vs H Q _ => vs = [] ∧ ∀ r H', Same H H' → H' r = some (.lst (labelL.map V.str)) → Q (.ref r) H'
def sp_Ltries (K : PySem.W.Frag) : Sp := fun vs H Q _ => ∃ g x0 x1 x2 x3 x4 x5 x6 x7 d0 d1 d2 d3 d4 d5 d6 d7, vs = [.ref g] ∧ H g = some (.lst [x0, x1, x2, x3, x4, x5, x6, x7]) ∧ Jv.DvAll K H [x0, x1, x2, x3, x4, x5, x6, x7] [d0, d1, d2, d3, d4, d5, d6, d7] ∧
  fewTs d1 ∧ SeqAt.shaped d2 = true ∧ SeqAt.shaped d3 = true ∧ SeqAt.shaped d4 = true ∧
  ((∃ z, faultR d0 d1 d2 d3 d4 d5 d6 d7 = some z ∧ ∀ v H', Same H H' → Jv.Dv K H' v (.tuple [.str z, .bool true]) → Q v H') ∨ (faultR d0 d1 d2 d3 d4 d5 d6 d7 = none ∧ ∀ H', Same H H' → Q .non H'))
section
variable {P : Program} {w : World} {K : PySem.W.Frag} {mg : Str → Option Value} {base : Heap}
theorem ok_Llabels (T : Tx) (O : Ok K mg T) : FnOk P w K mg base CX0 1 T.f_Llabels T.d_Llabels [] sp_Llabels := by
  refine O.F_Llabels.ok sc_Llabels (fun vs H Q E h => by obtain ⟨rfl, _⟩ := h; rfl) (fun cdv A outer s H vs Q E hr h => ?_)
  obtain ⟨rfl, q⟩ := h
  refine ⟨_, (pss_one (ps_ret (pe_lst (pa_cons pe_str (pa_cons pe_str (pa_cons pe_str (pa_cons pe_str (pa_cons pe_str (pa_cons pe_str (pa_cons pe_str (pa_cons pe_str pa_nil))))))))))), ?_⟩
  walk_at "r"
  intro g hg
  exact q g _ (Jv.same_new hg) upd_same
theorem ok_Ltries (T : Tx) (O : Ok K mg T) : FnOk P w K mg base CX0 7 T.f_Ltries T.d_Ltries ["_law_things"] (sp_Ltries K) := by
  refine O.F_Ltries.ok sc_Ltries (fun vs H Q E h => by obtain ⟨_, _, _, _, _, _, _, _, _, _, _, _, _, _, _, _, _, rfl, _⟩ := h; rfl) (fun cdv A outer s H vs Q E hr h => ?_)
  obtain ⟨g, x0, x1, x2, x3, x4, x5, x6, x7, d0, d1, d2, d3, d4, d5, d6, d7, rfl, hg, al, f1, g2, g3, g4, q⟩ := h
  refine ⟨_, (pss_cons (ps_try_as (i := 1) rfl rfl sc_Ltries.nd rfl rfl ⟨rfl, by decide, .inl O.m_BadRule⟩ takes0 (fun W pn xe tk _ => (pss_one (ps_expr (Jv.pe_makeX O.k_Rule (ok_Ruleu_initu T O) (hr.mono (by decide)) (by rfl) O.m_Rule O.b_Ruleu_initu .nil (fun σ => passAt tk σ) (pa_cons (pe_ix (r := rIxL K) ix_list (pv 0) pe_int (fun _ _ => rfl)) (pa_cons (pe_ix (r := rIxL K) ix_list (pv 0) pe_int (fun _ _ => rfl)) (pa_cons (pe_ix (r := rIxL K) ix_list (pv 0) pe_int (fun _ _ => rfl)) (pa_cons (pe_ix (r := rIxL K) ix_list (pv 0) pe_int (fun _ _ => rfl)) (pa_cons (pe_ix (r := rIxL K) ix_list (pv 0) pe_int (fun _ _ => rfl)) (pa_cons (pe_ix (r := rIxL K) ix_list (pv 0) pe_int (fun _ _ => rfl)) (pa_cons (pe_ix (r := rIxL K) ix_list (pv 0) pe_int (fun _ _ => rfl)) (pa_cons (pe_ix (r := rIxL K) ix_list (pv 0) pe_int (fun _ _ => rfl)) pa_nil)))))))))))) (fun a oe cls d pn hz hf => (pss_one (ps_ret (pe_tup (pa_cons (pe_xf O.x_BadRule.f O.n_BadRule_what hz hf (pv 1)) (pa_cons (pe_callB (r := Jv.rIsX2 K a cls d) (Jv.call_isX2 hz hf) (by rfl) O.z_isinstance (by decide +kernel) (pa_cons (pv 1) (pa_cons (pe_glob (v := .ref _) (by rfl) O.m_CallError rfl) pa_nil))) pa_nil)))))))
  (pss_one (ps_ret pe_non))), ?_⟩
  walk_at "r"
  refine Jv.r_makeC ?_
  walk_at "r"
  intro y dy hy hdy ne
  have sm : Same H (L2.upd (L2.upd H dy (.own y)) y (.ins T.C_Rule dy [])) := fun b o hb => by
    rw [upd_ne (ne_of_none hb hy), upd_ne (ne_of_none hb hdy)]; exact hb
  refine ⟨y, dy, _, _, _, _, _, _, _, _, d0, d1, d2, d3, d4, d5, d6, d7, [], rfl, upd_same, (fun b m => by cases m), (by rw [Jv.hide_nil]; exact al.same sm), f1, g2, g3, g4, ?_⟩
  rcases q with ⟨z, hz, k⟩ | ⟨hz, k⟩
  · refine .inl ⟨z, hz, fun e H' s' he => ?_⟩
    refine ⟨true, O.x_BadRule.e, fun _ a ha => ?_, fun z => nomatch z⟩
    have xi : Jv.XiC K T.C_BadRule := ⟨O.x_BadRule.i, O.i_BadRule_ga, O.i_BadRule_gg, O.x_BadRule.o.exC, O.i_BadRule_xca, O.i_Rule_cn, O.i_Rule_ct, O.i_BadRule_mr⟩
    walk_at "r"
    refine ⟨_, rfl, rfl, rfl, e, _, _, rfl, he, rfl, ?_⟩
    walk_at "r"
    refine ⟨T.C_BadRule, .ref T.C_CallError, _, true, rfl, .inr ⟨e, _, rfl, he⟩, xi, rfl, .own _, O.i_BadRule_xc, ?_⟩
    walk_at "r"
    intro t ht
    exact k _ _ ((sm.trans s').trans (Jv.same_new ht)) (.tup (Jv.sqT_at upd_same) (.cons (.str z) (.cons (.bl true) .nil)))
  · refine .inr ⟨hz, fun H' kp ra => ⟨rfl, ?_⟩⟩
    walk_at "r"
    exact k _ fun b o hb => kp b o (ne_of_none hb hy) (sm b o hb)
end
end K17

namespace Jv
open PySem PySem.Spec PyProof.Rows L2
theorem DvAll.drop1 {K : PySem.W.Frag} {H : Hp} {xs : List V} {ds : List PyData} (h : DvAll K H xs ds) : DvAll K H (xs.drop 1) (ds.drop 1) := by
  cases h with
  | nil => exact .nil
  | cons _ h => exact h
end Jv
namespace K17
open PySem PySem.Spec PyProof.Rows L2
/-! ### another good thing; equal rules -/
def sp_Lother (K : PySem.W.Frag) : Sp := fun vs H Q _ => ∃ x ds nm N, ∃ k : Nat, vs = [x, .int k, .str nm] ∧ k < 8 ∧ Jv.Held N H ∧ Jv.Dv K (Jv.hide N H) x (.tuple ds) ∧ RuleD ds ∧ nameS nm = true ∧
  ∀ v d H', Same H H' → RuleD (ds.set k d) → Jv.Dv K (Jv.hide N H') v d → Q v H'
theorem rule_set {ds : List PyData} {w : Int} {d1 d2 d3 d4 : PyData} {lo : Int} {d6 d7 : PyData} (w6 : 0 ≤ w ∧ w ≤ 6) (t : TestsOk d1) (c2 : Cnd d2) (c3 : Cnd d3) (c4 : Cnd d4) (l6 : 0 ≤ lo ∧ lo ≤ 6)
    (hi : d6 = .none ∨ ∃ h : Int, d6 = .int h ∧ lo ≤ h ∧ h ≤ 6) (sd : d7 = .none ∨ d7 = .int 0 ∨ d7 = .int 1) (e : ds = [.int w, d1, d2, d3, d4, .int lo, d6, d7]) : RuleD ds :=
  ⟨w, d1, d2, d3, d4, lo, d6, d7, ⟨e, w6, t.ok, t.nrm, t.few, t.shp, c2, c3, c4, l6, hi, sd⟩, t⟩
theorem cform {K : PySem.W.Frag} {H : Hp} {v : V} {d : PyData} (h : Jv.Dv K H v d) (c : Cnd d) : v = .non ∨ (∃ z, v = .str z) ∨ ∃ i, v = .int i := by
  rcases c with e | e | ⟨i, e, _⟩ <;> subst e <;> cases h
  · exact .inl rfl
  · exact .inr (.inl ⟨_, rfl⟩)
  · exact .inr (.inr ⟨_, rfl⟩)
section
variable {P : Program} {w : World} {K : PySem.W.Frag} {mg : Str → Option Value} {base : Heap}
theorem ok_Lother (T : Tx) (O : Ok K mg T) : FnOk P w K mg base CX0 1 T.f_Lother T.d_Lother ["_law_rule_here", "_law_place", "_law_name"] (sp_Lother K) := by
  refine O.F_Lother.ok sc_Lother (fun vs H Q E h => by obtain ⟨_, _, _, _, _, rfl, _⟩ := h; rfl) (fun cdv A outer s H vs Q E hr h => ?_)
  obtain ⟨x, ds, nm, N, k, rfl, hk, hN, hx, ⟨wd, d1, d2, d3, d4, lo, d6, d7, gr, tok⟩, hnm, q⟩ := h
  refine ⟨_, (pss_cons (ps_asg (pv 0) (pg_tup rfl (pgs_cons (pg_name (i := 3) sc_Lother.nd rfl (Or.inl rfl)) (pgs_cons (pg_name (i := 4) sc_Lother.nd rfl (Or.inl rfl)) (pgs_cons (pg_name (i := 5) sc_Lother.nd rfl (Or.inl rfl)) (pgs_cons (pg_name (i := 6) sc_Lother.nd rfl (Or.inl rfl)) (pgs_cons (pg_name (i := 7) sc_Lother.nd rfl (Or.inl rfl)) (pgs_cons (pg_name (i := 8) sc_Lother.nd rfl (Or.inl rfl)) (pgs_cons (pg_name (i := 9) sc_Lother.nd rfl (Or.inl rfl)) (pgs_cons (pg_name (i := 10) sc_Lother.nd rfl (Or.inl rfl)) pgs_nil))))))))))
  (pss_cons (ps_if (pt_cmpR op_eq (pv 1) pe_int (nomark _)) (pss_one (ps_ret (pe_op op_mod (pe_callTy (r := Jv.rInt) Jv.cr_int (by rfl) O.z_int (by decide +kernel) (pa_cons (pe_op op_add (pv 3) pe_int) pa_nil)) pe_int))) pss_nil)
  (pss_cons (ps_if (pt_cmpR op_eq (pv 1) pe_int (nomark _)) (pss_one (ps_ret (pe_ifExp (pt_cmpR op_gt (pe_callB (r := Jv.rLenK K) Jv.cr_len (by rfl) O.z_len (by decide +kernel) (pa_cons (pv 4) pa_nil)) pe_int (nomark _)) (pe_slice (r := rSlT K) sl_tup (pv 4) (po_some pe_int) po_none) (pe_tup (pa_cons (pe_tup (pa_cons (pv 2) (pa_cons pe_int (pa_cons pe_int pa_nil)))) pa_nil))))) pss_nil)
  (pss_cons (ps_if (pt_cmpR op_lt (pv 1) pe_int (nomark _)) (pss_one (ps_ret (pe_ifExp (pt_cmpR op_isN (pe_ix (r := rIxT K) ix_tup (pv 0) (pv 1) (fun _ _ => rfl)) pe_non (nomark _)) pe_str pe_non))) pss_nil)
  (pss_cons (ps_if (pt_cmpR op_eq (pv 1) pe_int (nomark _)) (pss_one (ps_ret (pe_ifExp (pt_cmpR op_gt (pv 8) pe_int (nomark _)) pe_int (pe_ifExp (pt_cmpR op_eq (pv 9) pe_int (nomark _)) pe_int pe_int)))) pss_nil)
  (pss_cons (ps_if (pt_cmpR op_eq (pv 1) pe_int (nomark _)) (pss_one (ps_ret (pe_ifExp (pt_cmpR op_notN (pv 9) pe_non (nomark _)) pe_non pe_int))) pss_nil)
  (pss_one (ps_ret (pe_ifExp (pt_cmpR op_notN (pv 10) pe_non (nomark _)) pe_non pe_int))))))))), ?_⟩
  have ge := gr.eq
  subst ge
  obtain ⟨t, xs, rfl, sq, al⟩ := tup_at hx
  obtain ⟨x0, x1, x2, x3, x4, x5, x6, x7, rfl, v0, v1, v2, v3, v4, v5, v6, v7⟩ := all8v al
  have sqH := Jv.Same.sqT Jv.hide_le sq
  cases v0
  cases v5
  walk_at "r"
  refine Jv.r_decI (fun h0 => ?_) (fun h0 => ?_)
  · obtain rfl : k = 0 := by omega
    walk_at "r"
    exact q _ (.int ((wd + 1) % 7)) _ (Same.refl _) (rule_set (w := (wd + 1) % 7) (by omega) tok gr.c2 gr.c3 gr.c4 gr.l6 gr.hi gr.sd rfl) (.int _)
  walk_at "r"
  refine Jv.r_decI (fun h1 => ?_) (fun h1 => ?_)
  · obtain rfl : k = 1 := by omega
    obtain ⟨ts, rfl, lts, ots⟩ := tok.tup
    obtain ⟨t1, ys, rfl, sq1, al1⟩ := tup_at v1
    have l1 := al1.len
    rw [List.length_map] at l1
    have sq1H := Jv.Same.sqT Jv.hide_le sq1
    walk_at "r"
    refine Jv.r_dec (fun hy => ?_) (fun hy => ?_)
    · walk_at "r"
      refine ⟨_, rfl, 1, rfl, t1, ys, rfl, sq1H, fun e => by have e1 := e.1; rw [show HT.sIx ys.length 0 (some 1) = min 1 ys.length from HT.sIx_nat ys.length 0 1] at e1; omega, fun g hg => ?_⟩
      refine q _ (.tuple ((ts.drop 1).map tD)) _ (Jv.same_new hg) (rule_set (w := wd) gr.w6 (tests_are (ts := ts.drop 1) (fun u m => ots u (List.mem_of_mem_drop m)) (by rw [List.length_drop]; omega)) gr.c2 gr.c3 gr.c4 gr.l6 gr.hi gr.sd rfl) ?_
      have e : cutV ys (some 1) none = ys.drop 1 := by
        unfold cutV
        rw [HT.sIx_none, show HT.sIx ys.length 0 (some 1) = min 1 ys.length from HT.sIx_nat ys.length 0 1, show min 1 ys.length = 1 by omega, ← List.length_drop, List.take_length]
      rw [e, List.map_drop]
      exact Jv.dv_new hg hN al1.drop1
    · walk_at "r"
      intro g hg
      walk_at "r"
      intro g2 hg2
      refine q _ (.tuple ([(nm, 0, 0)].map tD)) _ ((Jv.same_new hg).trans (Jv.same_new hg2)) (rule_set (w := wd) gr.w6 (tests_are (ts := [(nm, 0, 0)]) (fun u m => ?_) (show 1 ≤ 4 by decide)) gr.c2 gr.c3 gr.c4 gr.l6 gr.hi gr.sd rfl) ?_
      · cases m with
        | head => exact ⟨hnm, Int.le_refl 0, Int.le_refl 0, show (0 : Int) ≤ 40 by decide⟩
        | tail _ m => cases m
      · exact Jv.dv_new hg2 (hN.same (Jv.same_new hg)) (.cons (Jv.dv_new hg hN (.cons (.str _) (.cons (.int _) (.cons (.int _) .nil)))) .nil)
  walk_at "r"
  have fin : ∀ (v : V) (d : PyData), (d = .none ∧ v = .non ∨ d = .str (Str.ofString "none") ∧ v = .str (Str.ofString "none")) → (2 ≤ k ∧ k ≤ 4) → Q v H := fun v d hv hk => by
    have hc : Cnd d := by
      rcases hv with ⟨rfl, _⟩ | ⟨rfl, _⟩
      · exact .inl rfl
      · exact .inr (.inl rfl)
    have hd : Jv.Dv K (Jv.hide N H) v d := by
      rcases hv with ⟨rfl, rfl⟩ | ⟨rfl, rfl⟩
      · exact .non
      · exact .str _
    obtain rfl | rfl | rfl : k = 2 ∨ k = 3 ∨ k = 4 := by omega
    · exact q _ d _ (Same.refl _) (rule_set gr.w6 tok hc gr.c3 gr.c4 gr.l6 gr.hi gr.sd rfl) hd
    · exact q _ d _ (Same.refl _) (rule_set gr.w6 tok gr.c2 hc gr.c4 gr.l6 gr.hi gr.sd rfl) hd
    · exact q _ d _ (Same.refl _) (rule_set gr.w6 tok gr.c2 gr.c3 hc gr.l6 gr.hi gr.sd rfl) hd
  refine Jv.r_dec (fun h5 => ?_) (fun h5 => ?_)
  · walk_at "r"
    obtain rfl | rfl | rfl : k = 2 ∨ k = 3 ∨ k = 4 := by omega
    · refine ⟨t, _, _, x2, rfl, rfl, sqH, rfl, ?_⟩
      rcases cform v2 gr.c2 with rfl | ⟨z, rfl⟩ | ⟨z, rfl⟩
      all_goals walk_at "r"
      · exact fin _ _ (.inr ⟨rfl, rfl⟩) (by decide)
      all_goals exact fin _ _ (.inl ⟨rfl, rfl⟩) (by decide)
    · refine ⟨t, _, _, x3, rfl, rfl, sqH, rfl, ?_⟩
      rcases cform v3 gr.c3 with rfl | ⟨z, rfl⟩ | ⟨z, rfl⟩
      all_goals walk_at "r"
      · exact fin _ _ (.inr ⟨rfl, rfl⟩) (by decide)
      all_goals exact fin _ _ (.inl ⟨rfl, rfl⟩) (by decide)
    · refine ⟨t, _, _, x4, rfl, rfl, sqH, rfl, ?_⟩
      rcases cform v4 gr.c4 with rfl | ⟨z, rfl⟩ | ⟨z, rfl⟩
      all_goals walk_at "r"
      · exact fin _ _ (.inr ⟨rfl, rfl⟩) (by decide)
      all_goals exact fin _ _ (.inl ⟨rfl, rfl⟩) (by decide)
  walk_at "r"
  refine Jv.r_decI (fun h5 => ?_) (fun h5 => ?_)
  · obtain rfl : k = 5 := by omega
    have fin5 : ∀ i : Int, (i = 0 ∨ i = 1 ∧ ¬ d6 = .int 0) → Q (.int i) H := fun i hi => by
      refine q _ (.int i) _ (Same.refl _) (rule_set (lo := i) gr.w6 tok gr.c2 gr.c3 gr.c4 (by omega) ?_ gr.sd rfl) (.int _)
      rcases gr.hi with e | ⟨h, e, h1, h2⟩
      · exact .inl e
      · refine .inr ⟨h, e, ?_, h2⟩
        have := gr.l6
        rcases hi with rfl | ⟨rfl, n⟩
        · omega
        · have : h ≠ 0 := fun z => n (by rw [e, z])
          omega
    walk_at "r"
    refine Jv.r_dec (fun hc => ?_) (fun hc => ?_)
    · walk_at "r"
      exact fin5 0 (.inl rfl)
    · rcases gr.hi with e | ⟨h, e, _, _⟩
      · have z : x6 = .non := by rw [e] at v6; cases v6; rfl
        subst z
        walk_at "r"
        exact fin5 1 (.inr ⟨rfl, by rw [e]; exact fun z => nomatch z⟩)
      · have z : x6 = .int h := by rw [e] at v6; cases v6; rfl
        subst z
        walk_at "r"
        refine Jv.r_decI (fun hz => ?_) (fun hz => ?_)
        · walk_at "r"
          exact fin5 0 (.inl rfl)
        · walk_at "r"
          exact fin5 1 (.inr ⟨rfl, by rw [e]; exact fun z => hz (PyData.int.inj z)⟩)
  walk_at "r"
  refine Jv.r_decI (fun h6 => ?_) (fun h6 => ?_)
  · obtain rfl : k = 6 := by omega
    have fin6 : ∀ (v : V) (d : PyData), (d = .none ∨ d = .int 6) → Jv.Dv K (Jv.hide N H) v d → Q v H := fun v d hd hv => by
      refine q _ d _ (Same.refl _) (rule_set gr.w6 tok gr.c2 gr.c3 gr.c4 gr.l6 ?_ gr.sd rfl) hv
      rcases hd with e | e
      · exact .inl e
      · exact .inr ⟨6, e, gr.l6.2, by decide⟩
    rcases gr.hi with e | ⟨h, e, _, _⟩
    · have z : x6 = .non := by rw [e] at v6; cases v6; rfl
      subst z
      walk_at "r"
      exact fin6 _ _ (.inr rfl) (.int _)
    · have z : x6 = .int h := by rw [e] at v6; cases v6; rfl
      subst z
      walk_at "r"
      exact fin6 _ _ (.inl rfl) .non
  obtain rfl : k = 7 := by omega
  have fin7 : ∀ (v : V) (d : PyData), (d = .none ∨ d = .int 0 ∨ d = .int 1) → Jv.Dv K (Jv.hide N H) v d → Q v H := fun v d hd hv =>
    q _ d _ (Same.refl _) (rule_set gr.w6 tok gr.c2 gr.c3 gr.c4 gr.l6 gr.hi hd rfl) hv
  have z : x7 = .non ∨ ∃ h, x7 = .int h := by
    rcases gr.sd with e | e | e <;> rw [e] at v7 <;> cases v7
    · exact .inl rfl
    · exact .inr ⟨_, rfl⟩
    · exact .inr ⟨_, rfl⟩
  rcases z with rfl | ⟨h, rfl⟩
  · walk_at "r"
    exact fin7 _ _ (.inr (.inr rfl)) (.int _)
  · walk_at "r"
    exact fin7 _ _ (.inl rfl) .non
end
end K17

namespace Jv
open PySem PySem.Spec PyProof.Rows L2
theorem DvAll.set {K : PySem.W.Frag} {H : Hp} {v : V} {d : PyData} (hd : Dv K H v d) : ∀ {xs : List V} {ds : List PyData} (j : Nat), DvAll K H xs ds → DvAll K H (xs.set j v) (ds.set j d)
  | _, _, _, .nil => .nil
  | _, _, 0, .cons _ t => .cons hd t
  | _, _, j + 1, .cons h t => .cons h (DvAll.set hd j t)
end Jv
namespace K17
open PySem PySem.Spec PyProof.Rows L2
/-! ### equal rules -/
theorem rule_each {ds : List PyData} (h : RuleD ds) : ds.length = 8 ∧ ∀ d ∈ ds, SeqAt.shaped d = true ∧ d.canLay0 = true ∧ d.depth ≤ 2 ∧ Pl 2 d := by
  obtain ⟨w, d1, d2, d3, d4, lo, d6, d7, gr, tok⟩ := h
  rw [gr.eq]
  have hi : ∀ i : Int, SeqAt.shaped (.int i) = true ∧ (PyData.int i).canLay0 = true ∧ (PyData.int i).depth ≤ 2 ∧ Pl 2 (.int i) := fun i => ⟨shaped_int i, by simp [PyData.canLay0], by simp [PyData.depth], .inl ⟨rfl, rfl⟩⟩
  have hn : SeqAt.shaped .none = true ∧ PyData.none.canLay0 = true ∧ PyData.none.depth ≤ 2 ∧ Pl 2 .none := ⟨by simp [SeqAt.shaped, PyData.canLay0, PyData.depth], by simp [PyData.canLay0], by simp [PyData.depth], .inl ⟨rfl, rfl⟩⟩
  have hc : ∀ {d : PyData}, Cnd d → SeqAt.shaped d = true ∧ d.canLay0 = true ∧ d.depth ≤ 2 ∧ Pl 2 d := fun {d} c => by
    rcases c with rfl | rfl | ⟨i, rfl, _⟩
    · exact hn
    · exact ⟨Cnd.shaped (.inr (.inl rfl)), by decide +kernel, by simp [PyData.depth], .inl ⟨rfl, rfl⟩⟩
    · exact hi i
  have ht : SeqAt.shaped d1 = true ∧ d1.canLay0 = true ∧ d1.depth ≤ 2 ∧ Pl 2 d1 := by
    have s := tok.shp
    have pl := tok.pl
    obtain ⟨ts, rfl, lt, ot⟩ := tok.tup
    refine ⟨s, ?_, ?_, pl⟩
    · unfold SeqAt.shaped at s
      simp only [Bool.and_eq_true] at s
      exact s.1
    · have h2 : PyData.depthAll (ts.map tD) ≤ 1 := depAll_of fun x m => by
        obtain ⟨t, _, rfl⟩ := List.mem_map.mp m
        unfold tD
        simp [PyData.depth, PyData.depthAll]
      simp only [PyData.depth]; omega
  refine ⟨rfl, fun d m => ?_⟩
  simp only [List.mem_cons, List.not_mem_nil, or_false] at m
  rcases m with rfl | rfl | rfl | rfl | rfl | rfl | rfl | rfl
  · exact hi _
  · exact ht
  · exact hc gr.c2
  · exact hc gr.c3
  · exact hc gr.c4
  · exact hi _
  · rcases gr.hi with rfl | ⟨h, rfl, _⟩
    · exact hn
    · exact hi _
  · rcases gr.sd with rfl | rfl | rfl
    · exact hn
    · exact hi _
    · exact hi _
theorem rule_shp {ds : List PyData} (h : RuleD ds) : Shp ds := fun d m => ((rule_each h).2 d m).1
theorem rule_self {ds : List PyData} (h : RuleD ds) : PyData.eqvAll ds ds = true := SeqAt.eqvAll_refl ds (canAll_of fun d m => ((rule_each h).2 d m).2.1)
theorem rule_pl {ds : List PyData} (h : RuleD ds) : Pl 3 (.tuple ds) := .inr ⟨_, rfl, by have := (rule_each h).1; omega, fun d m => ((rule_each h).2 d m).2.2.2⟩
theorem rule_tup {ds : List PyData} (h : RuleD ds) : SeqAt.shaped (.tuple ds) = true := by
  have h1 : PyData.canLayAll0 ds = true := canAll_of fun d m => ((rule_each h).2 d m).2.1
  have h2 : PyData.depthAll ds ≤ 2 := depAll_of fun d m => ((rule_each h).2 d m).2.2.1
  unfold SeqAt.shaped
  rw [show PyData.canLay0 (.tuple ds) = true by simp only [PyData.canLay0]; exact h1, decide_eq_true (by simp only [PyData.depth]; omega)]
  rfl
theorem RAt.ins {K : PySem.W.Frag} {H : Hp} {C a : Addr} {ds : List PyData} (h : RAt K H C a ds) : ∃ dx fs, H a = some (.ins C dx fs) := by
  obtain ⟨dx, _, _, _, _, _, _, _, _, e, _⟩ := h
  exact ⟨_, _, e⟩
def sp_Lequal (K : PySem.W.Frag) : Sp := fun vs H Q _ => ∃ p l x ds nm, vs = [.ref p, x, .str nm] ∧ Jv.Hand H p l ∧ Jv.Dv K (Jv.hide [p] H) x (.tuple ds) ∧ RuleD ds ∧ nameS nm = true ∧
  ∀ H', Jv.Kp p H H' → Jv.Hand H' p l → Q (.bl true) H'
section
variable {P : Program} {w : World} {K : PySem.W.Frag} {mg : Str → Option Value} {base : Heap}
theorem ok_Lequal (T : Tx) (O : Ok K mg T) : FnOk P w K mg base CX0 8 T.f_Lequal T.d_Lequal ["_law_hand_here", "_law_rule_here", "_law_name"] (sp_Lequal K) := by
  refine O.F_Lequal.ok sc_Lequal (fun vs H Q E h => by obtain ⟨_, _, _, _, _, rfl, _⟩ := h; rfl) (fun cdv A outer s H vs Q E hr h => ?_)
  obtain ⟨p, l, x, ds, nm, rfl, hh, hx, hd, hnm, q⟩ := h
  refine ⟨_, (pss_cons (ps_set (i := 3) sc_Lequal.nd rfl (Or.inl rfl) (pe_call (ok_Lmade T O) (hr.mono (by decide)) (by rfl) O.m_Lmade O.F_Lmade.kp O.b_Lmade .nil pass0 (pa_cons (pv 0) (pa_cons (pv 1) pa_nil))))
  (pss_cons (ps_set (i := 4) sc_Lequal.nd rfl (Or.inl rfl) (pe_call (ok_Lmade T O) (hr.mono (by decide)) (by rfl) O.m_Lmade O.F_Lmade.kp O.b_Lmade .nil pass0 (pa_cons (pv 0) (pa_cons (pv 1) pa_nil))))
  (pss_cons (ps_if (PW.pt (pw_or (pt_not (pt_cmpR (Jv.op_eqO (ok_Ruleu_equ T O) O.h_Ruleu_equ O.i_Rule_nt (hr.mono (by decide)) O.b_Ruleu_equ pass0) (pv 3) (pv 4) (nomark _))) (pw_or (pt_cmpR (Jv.op_neO (ok_Ruleu_equ T O) O.h_Ruleu_equ O.i_Rule_ne O.i_Rule_cm O.i_Rule_nt (hr.mono (by decide)) O.b_Ruleu_equ pass0) (pv 3) (pv 4) (nomark _)) (pw_or (pt_cmpR (Jv.op_eqO (ok_Ruleu_equ T O) O.h_Ruleu_equ O.i_Rule_nt (hr.mono (by decide)) O.b_Ruleu_equ pass0) (pv 3) (pv 1) (nomark _)) (pw_or1 (pt_not (pt_val (pe_call (ok_Lis_rule T O) (hr.mono (by decide)) (by rfl) O.m_Lis_rule O.F_Lis_rule.kp O.b_Lis_rule .nil pass0 (pa_cons (pv 3) (pa_cons (pv 1) pa_nil)))))))))) (pss_one (ps_ret pe_bl)) pss_nil)
  (pss_cons (ps_for PassesOwn.never rfl (pi_range1 (by rfl) O.z_range (pa_cons pe_int pa_nil)) (pg_name (i := 5) sc_Lequal.nd rfl (Or.inl rfl)) (pss_cons (ps_set (i := 6) sc_Lequal.nd rfl (Or.inl rfl) (pe_callTy (r := Jv.rListOf K) call_list_of (by rfl) O.z_list (by decide +kernel) (pa_cons (pv 1) pa_nil)))
  (pss_cons (ps_asg (pe_call (ok_Lother T O) (hr.mono (by decide)) (by rfl) O.m_Lother O.F_Lother.kp O.b_Lother .nil pass0 (pa_cons (pv 1) (pa_cons (pv 5) (pa_cons (pv 2) pa_nil)))) (pg_sub (pv 6) (pv 5) set_list))
  (pss_cons (ps_set (i := 7) sc_Lequal.nd rfl (Or.inl rfl) (pe_callTy (r := Jv.rTupOf K) call_tuple_of (by rfl) O.z_tuple (by decide +kernel) (pa_cons (pv 6) pa_nil)))
  (pss_cons (ps_set (i := 8) sc_Lequal.nd rfl (Or.inl rfl) (pe_call (ok_Lmade T O) (hr.mono (by decide)) (by rfl) O.m_Lmade O.F_Lmade.kp O.b_Lmade .nil pass0 (pa_cons (pv 0) (pa_cons (pv 7) pa_nil))))
  (pss_one (ps_if (PW.pt (pw_or (pt_not (pt_val (pe_call (ok_Lis_rule T O) (hr.mono (by decide)) (by rfl) O.m_Lis_rule O.F_Lis_rule.kp O.b_Lis_rule .nil pass0 (pa_cons (pv 8) (pa_cons (pv 7) pa_nil))))) (pw_or1 (pt_cmpR op_ne (pe_cmpR (Jv.op_eqO (ok_Ruleu_equ T O) O.h_Ruleu_equ O.i_Rule_nt (hr.mono (by decide)) O.b_Ruleu_equ pass0) (pv 3) (pv 8) (nomark _)) (pe_cmpR (r := rEqD K) (op_eqD hr.units) (pv 7) (pv 1) (nomark _)) (nomark _))))) (pss_one (ps_ret pe_bl)) pss_nil)))))))
  (pss_one (ps_ret (pe_call (ok_Lis_rule T O) (hr.mono (by decide)) (by rfl) O.m_Lis_rule O.F_Lis_rule.kp O.b_Lis_rule .nil pass0 (pa_cons (pv 3) (pa_cons (pv 1) pa_nil))))))))), ?_⟩
  obtain ⟨t, xs, rfl, sq, al⟩ := tup_at hx
  have lx : xs.length = 8 := al.len.trans (rule_each hd).1
  walk_at "r"
  refine ⟨p, l, _, ds, rfl, hh, hx, hd, fun r1 H1 kp1 hh1 n1 ra1 => ?_⟩
  walk_at "r"
  refine ⟨p, l, _, ds, rfl, hh1, hx.same (Jv.Kp.hide kp1), hd, fun r2 H2 kp2 hh2 n2 ra2 => ?_⟩
  have hx2 := (hx.same (Jv.Kp.hide kp1)).same (Jv.Kp.hide kp2)
  have ra1h := ra1.same (Jv.Kp.hide kp2)
  have ra1' := ra1h.same Jv.hide_le
  have ra2' := ra2.same Jv.hide_le
  obtain ⟨dx1, fs1, e1⟩ := ra1'.ins
  obtain ⟨dx2, fs2, e2⟩ := ra2'.ins
  have sq2 := Jv.Same.sqT (Jv.hide_le (N := [p])) (Jv.Same.sqT (Jv.Kp.hide kp2) (Jv.Same.sqT (Jv.Kp.hide kp1) sq))
  have kp02 : Jv.Kp p H H2 := kp1.trans kp2
  clear hh hh1 kp1 kp2 ra1
  walk_at "r"
  refine ⟨r1, _, _, r2, rfl, rfl, e1, .inl ⟨_, _, e2⟩, r1, r2, ds, rfl, ra1', rule_shp hd, .inl ⟨ds, ra2', rule_shp hd, _, rfl, ?_⟩⟩
  rw [rule_self hd]
  walk_at "r"
  refine ⟨r1, _, _, r2, rfl, rfl, e1, .inl ⟨_, _, e2⟩, r1, r2, ds, rfl, ra1', rule_shp hd, .inl ⟨ds, ra2', rule_shp hd, _, rfl, ?_⟩⟩
  rw [rule_self hd]
  walk_at "r"
  refine ⟨r1, _, _, t, rfl, rfl, e1, .inr ⟨_, sq2⟩, r1, t, ds, rfl, ra1', rule_shp hd, .inr ⟨_, sq2, _, rfl, ?_⟩⟩
  walk_at "r"
  refine ⟨r1, _, ds, rfl, ra1', hx2.same Jv.hide_le, rule_pl hd, fun H3 s3 => ?_⟩
  have kp3 : Jv.Kp p H2 H3 := Jv.Kp.same s3
  have hh3 := hh2.same s3
  walk_at "r"
  refine ⟨_, rfl, by omega, by omega, for_range (lo := 0) (n := 8) (fun j σ H' => ∃ y5 y6 y7 y8, σ = [some (.ref p), some (.ref t), some (.str nm), some (.ref r1), some (.ref r2), y5, y6, y7, y8] ∧ Jv.Kp p H2 H' ∧ Jv.Hand H' p l) ⟨_, _, _, _, rfl, kp3, hh3⟩ ?_ ?_⟩
  · rintro j σ H4 hj ⟨y5, y6, y7, y8, rfl, kp4, hh4⟩
    have S4 := Jv.Kp.hide kp4
    have hx4 := hx2.same S4
    have ra4 := ra1h.same S4
    have sq4 := Jv.Same.sqT (Jv.hide_le (N := [p])) (Jv.Same.sqT S4 (Jv.Same.sqT ((Jv.Kp.hide kp02)) sq))
    have al4 : Jv.DvAll K (Jv.hide [p] H4) xs ds := al.same ((Jv.Kp.hide kp02).trans S4)
    have N4 : Jv.Held [p] H4 := fun b m => let ⟨ys, e⟩ := hh4.lst b m; ⟨_, e⟩
    walk_at "r"
    refine ⟨t, xs, rfl, .inr sq4, fun g hg => ?_⟩
    have s5 := Jv.same_new (u := .lst xs) hg
    have ng := hh4.ne2 hg
    walk_at "r"
    refine ⟨_, ds, nm, [g, p], j, by rw [Int.zero_add]; rfl, hj, (N4.same s5).cons upd_same, hx4.same (Jv.hide_more s5 hg), hd, hnm, fun v d H6 s6 rd dv => ?_⟩
    have eg := s6 _ _ (upd_same (H := H4) (a := g) (o := .lst xs))
    have al6 := (al4.same (Jv.hide_more s5 hg)).same (Jv.hide_same s6)
    have kp46 : Jv.Kp p H4 H6 := (Jv.Kp.same s5).trans (Jv.Kp.same s6)
    have hh6 := (hh4.same s5).same s6
    walk_at "r"
    refine ⟨g, xs, _, j, rfl, rfl, eg, ?_, ?_⟩
    · rw [Int.zero_add]
      unfold ixN
      rw [if_pos (by omega), if_pos (by omega), Int.toNat_natCast]
    have h67 : Jv.Kp p H6 (upd H6 g (.lst (xs.set j v))) ∨ True := .inr trivial
    have kp47 : Jv.Kp p H4 (upd H6 g (.lst (xs.set j v))) := fun b o nb hb => by
      rw [upd_ne (ne_of_none hb hg)]; exact kp46 b o nb hb
    have hh7 : Jv.Hand (upd H6 g (.lst (xs.set j v))) p l := hand_kpx hh6 (fun b o nb hb => by rw [upd_ne nb]; exact hb) ng
    have al7 : Jv.DvAll K (Jv.hide [g, p] (upd H6 g (.lst (xs.set j v)))) (xs.set j v) (ds.set j d) := by
      rw [Jv.hide_upd]; exact Jv.DvAll.set dv j al6
    have eg7 : upd H6 g (.lst (xs.set j v)) g = some (.lst (xs.set j v)) := upd_same
    have N7 : Jv.Held [g, p] (upd H6 g (.lst (xs.set j v))) := Jv.Held.cons (fun b m => let ⟨ys, e⟩ := hh7.lst b m; ⟨_, e⟩) eg7
    generalize upd H6 g (.lst (xs.set j v)) = H7 at kp47 hh7 al7 eg7 N7
    clear h67
    walk_at "r"
    refine Jv.r_tupOfL (Jv.sqL_at eg7) fun t2 ht2 => ?_
    have s8 := Jv.same_new (u := .tup (xs.set j v)) ht2
    have dv8 : Jv.Dv K (Jv.hide [p] (upd H7 t2 (.tup (xs.set j v)))) (.ref t2) (.tuple (ds.set j d)) := (Jv.dv_new ht2 N7 al7).same Jv.hide_less
    have hh8 := hh7.same s8
    have kp48 := kp47.trans (Jv.Kp.same s8)
    have sq8 : SqT K (upd H7 t2 (.tup (xs.set j v))) t2 (xs.set j v) := Jv.sqT_at upd_same
    generalize upd H7 t2 (.tup (xs.set j v)) = H8 at dv8 hh8 kp48 sq8
    walk_at "r"
    refine ⟨p, l, _, _, rfl, hh8, dv8, rd, fun r3 H9 kp9 hh9 n9 ra9 => ?_⟩
    have kp49 := kp48.trans kp9
    have ra9' := ra9.same Jv.hide_le
    have dv9 := (dv8.same (Jv.Kp.hide kp9)).same (Jv.hide_le (N := [p]))
    walk_at "r"
    refine ⟨r3, _, _, rfl, ra9', dv9, rule_pl rd, fun H10 s10 => ?_⟩
    have kp410 := kp49.trans (Jv.Kp.same s10)
    have ra10 := ra9'.same s10
    have dv10 := dv9.same s10
    have one10 := (ra4.same (Jv.Kp.hide kp410)).same (Jv.hide_le (N := [p]))
    have hx10 := (hx4.same (Jv.Kp.hide kp410)).same (Jv.hide_le (N := [p]))
    have hh10 := hh9.same s10
    obtain ⟨dxa, fsa, ea⟩ := one10.ins
    obtain ⟨dxb, fsb, eb⟩ := ra10.ins
    walk_at "r"
    refine ⟨r1, _, _, r3, rfl, rfl, ea, .inl ⟨_, _, eb⟩, r1, r3, ds, rfl, one10, rule_shp hd, .inl ⟨_, ra10, rule_shp rd, _, rfl, ?_⟩⟩
    walk_at "r"
    refine ⟨_, _, dv10.dp, hx10.dp, rule_tup rd, rule_tup hd, ?_⟩
    rw [show PyData.eqv (.tuple (ds.set j d)) (.tuple ds) = PyData.eqvAll ds (ds.set j d) from PySem.W.eqvAll_comm _ _]
    generalize PyData.eqvAll ds (ds.set j d) = bb
    cases bb
    all_goals
      walk_at "r"
      exact ⟨_, _, _, _, rfl, kp4.trans kp410, hh10⟩
  · rintro σ H4 ⟨y5, y6, y7, y8, rfl, kp4, hh4⟩
    have S4 := Jv.Kp.hide kp4
    walk_at "r"
    refine ⟨r1, _, ds, rfl, (ra1h.same S4).same Jv.hide_le, (hx2.same S4).same Jv.hide_le, rule_pl hd, fun H5 s5 => ?_⟩
    walk_at "r"
    exact q H5 ((kp02.trans kp4).trans (Jv.Kp.same s5)) (hh4.same s5)
end
end K17

namespace Jv
open PySem PySem.Spec PyProof.Rows L2
theorem r_makeN {K : PySem.W.Frag} {C : Addr} {n m : Nat} {sp : Sp} {gV : List V → List V → List V} {E : XK} {t tk : TA} {σ : L2.St} {H : Hp} {Q : VK} (h : t σ H fun vs H1 => tk σ H1 fun zs H2 => vs.length = n ∧ zs.length = m ∧
    ∀ x dx, H2 x = none → H2 dx = none → dx ≠ x → sp (gV (.ref x :: vs) zs) (upd (upd H2 dx (.own x)) x (.ins C dx [])) (fun v H3 => v = .non ∧ Q (.ref x) H3) E) : tMakeN C n m sp gV E t tk σ H Q := h
theorem DvAll.dropn {K : PySem.W.Frag} {H : Hp} : ∀ (k : Nat) {xs : List V} {ds : List PyData}, DvAll K H xs ds → DvAll K H (xs.drop k) (ds.drop k)
  | 0, _, _, h => h
  | _ + 1, _, _, .nil => .nil
  | k + 1, _, _, .cons _ h => DvAll.dropn k h
section
variable {K : PySem.W.Frag} {H : Hp} {Q : VK}
theorem r_slPre {t : Addr} {xs : List V} (k : Nat) (h : SqT K H t xs) (h1 : k < xs.length) (q : ∀ g, H g = none → Q (.ref g) (upd H g (.tup (xs.take k)))) : rSlT K (.ref t) none (some (k : Int)) H Q := by
  refine ⟨t, xs, rfl, h, fun e => by have e2 := e.2; rw [HT.sIx_nat] at e2; omega, fun g hg => ?_⟩
  have e : cutV xs none (some (k : Int)) = xs.take k := by
    unfold cutV
    rw [HT.sIx_none, HT.sIx_nat, Nat.min_eq_left (by omega), List.drop_zero, Nat.sub_zero]
  rw [e]
  exact q g hg
theorem r_slSuf {t : Addr} {xs : List V} (k : Nat) (h : SqT K H t xs) (h0 : 0 < k) (h1 : k ≤ xs.length) (q : ∀ g, H g = none → Q (.ref g) (upd H g (.tup (xs.drop k)))) : rSlT K (.ref t) (some (k : Int)) none H Q := by
  refine ⟨t, xs, rfl, h, fun e => by have e2 := e.1; rw [HT.sIx_nat] at e2; omega, fun g hg => ?_⟩
  have e : cutV xs (some (k : Int)) none = xs.drop k := by
    unfold cutV
    rw [HT.sIx_none, HT.sIx_nat, Nat.min_eq_left (by omega), ← List.length_drop, List.take_length]
  rw [e]
  exact q g hg
theorem r_cut {σ : L2.St} {t g1 : Addr} {xs ys : List V} (k : Nat) (ht : σ[0]? = some (some (.ref t))) (hg : σ[1]? = some (some (.ref g1))) (sq : SqT K H t xs) (us : SqT K H g1 ys) (h0 : 0 < k) (h1 : k < xs.length) (h2 : k < ys.length) (sm : xs.length + ys.length ≤ sizeLine)
    (q : ∀ c H', Same H H' → SqT K H' c (xs.take k ++ ys.drop k) → Q (.ref c) H') :
    tSl (rSlT K) (tVar 0) tNoPart (tPart (tC (V.int k))) σ H fun x H1 => tSl (rSlT K) (tVar 1) (tPart (tC (V.int k))) tNoPart σ H1 fun y H2 => rCatT K x y H2 Q := by
  refine ⟨_, ht, k, rfl, r_slPre k sq h1 fun a ha => ?_⟩
  have s1 := Jv.same_new (u := .tup (xs.take k)) ha
  refine ⟨_, hg, k, rfl, ?_⟩
  dsimp only [tNoPart]
  refine r_slSuf k (Jv.Same.sqT s1 us) h0 (by omega) fun b hb => ?_
  have s2 := Jv.same_new (u := .tup (ys.drop k)) hb
  have l1 : (xs.take k).length = k := by rw [List.length_take]; omega
  have l2 : (ys.drop k).length = ys.length - k := List.length_drop
  refine ⟨a, b, xs.take k, ys.drop k, rfl, rfl, Jv.sqT_at (s2 _ _ upd_same), Jv.sqT_at upd_same, (fun e => by rw [e] at l1; exact absurd l1 (by simp; omega)), by omega, (fun e => by rw [e] at l2; exact absurd l2 (by simp; omega)), fun _ c hc => ?_⟩
  exact q c _ ((s1.trans s2).trans (Jv.same_new hc)) (Jv.sqT_at upd_same)
end
end Jv
namespace K17
open PySem PySem.Spec PyProof.Rows L2
/-! ### things at the end left out -/
def sp_Lleft_out (K : PySem.W.Frag) : Sp := fun vs H Q _ => ∃ x ds, vs = [x] ∧ Jv.Dv K H x (.tuple ds) ∧ RuleD ds ∧ ∀ H', Same H H' → Q (.bl true) H'
theorem none_ok : TestsOk (.tuple []) := tests_are (ts := []) (fun t m => by cases m) (Nat.zero_le _)
theorem init_ok {K : PySem.W.Frag} {H : Hp} {C CB y dy : Addr} {vs : List V} {ds : List PyData} {Q : VK} {E : XK} (hy : H y = none) (hdy : H dy = none) (al : Jv.DvAll K H vs ds) (rd : RuleD ds) (q : ∀ H', Same H H' → RAt K H' C y ds → Q .non H') :
    sp_Rule_init K C CB (.ref y :: vs) (L2.upd (L2.upd H dy (.own y)) y (.ins C dy [])) Q E := by
  obtain ⟨w, d1, d2, d3, d4, lo, d6, d7, gr, tok⟩ := rd
  have ge := gr.eq
  subst ge
  have sm : Same H (L2.upd (L2.upd H dy (.own y)) y (.ins C dy [])) := fun b o hb => by
    rw [upd_ne (ne_of_none hb hy), upd_ne (ne_of_none hb hdy)]; exact hb
  obtain ⟨x0, x1, x2, x3, x4, x5, x6, x7, rfl, _⟩ := all8v al
  refine ⟨y, dy, x0, x1, x2, x3, x4, x5, x6, x7, _, _, _, _, _, _, _, _, [], rfl, upd_same, (fun b m => by cases m), (by rw [Jv.hide_nil]; exact al.same sm), tok.few, gr.c2.shaped, gr.c3.shaped, gr.c4.shaped, .inr ⟨gr.ok, fun H' kp ra => ?_⟩⟩
  rw [Jv.hide_nil, tok.nrm] at ra
  exact q H' (fun b o hb => kp b o (ne_of_none hb hy) (sm b o hb)) ra
section
variable {P : Program} {w : World} {K : PySem.W.Frag} {mg : Str → Option Value} {base : Heap}
theorem ok_Lleft_out (T : Tx) (O : Ok K mg T) : FnOk P w K mg base CX0 7 T.f_Lleft_out T.d_Lleft_out ["_law_rule_here"] (sp_Lleft_out K) := by
  refine O.F_Lleft_out.ok sc_Lleft_out (fun vs H Q E h => by obtain ⟨_, _, rfl, _⟩ := h; rfl) (fun cdv A outer s H vs Q E hr h => ?_)
  obtain ⟨x, ds, rfl, hx, hd, q⟩ := h
  refine ⟨_, (pss_cons (ps_set (i := 1) sc_Lleft_out.nd rfl (Or.inl rfl) (pe_tup (pa_cons pe_int (pa_cons (pe_tup pa_nil) (pa_cons pe_non (pa_cons pe_non (pa_cons pe_non (pa_cons pe_int (pa_cons pe_non (pa_cons pe_non pa_nil))))))))))
  (pss_cons (ps_set (i := 2) sc_Lleft_out.nd rfl (Or.inl rfl) (pe_makeN (E := E0) O.k_Rule (ok_Ruleu_initu T O) (hr.mono (by decide)) (by rfl) O.m_Rule O.kb2_low_side_own_tests_Ruleu_initu passL (pa_cons (pe_ix (r := rIxT K) ix_tup (pv 0) pe_int (fun _ _ => rfl)) pa_nil) (pk_cons (pe_ix (r := rIxT K) ix_tup (pv 0) pe_int (fun _ _ => rfl)) (pk_cons (pe_ix (r := rIxT K) ix_tup (pv 0) pe_int (fun _ _ => rfl)) (pk_cons (pe_ix (r := rIxT K) ix_tup (pv 0) pe_int (fun _ _ => rfl)) (pk_cons (pe_ix (r := rIxT K) ix_tup (pv 0) pe_int (fun _ _ => rfl)) pk_nil))))))
  (pss_cons (ps_if (pt_not (pt_val (pe_call (ok_Lis_rule T O) (hr.mono (by decide)) (by rfl) O.m_Lis_rule O.F_Lis_rule.kp O.b_Lis_rule .nil pass0 (pa_cons (pv 2) (pa_cons (pe_tup (pa_cons (pe_ix (r := rIxT K) ix_tup (pv 0) pe_int (fun _ _ => rfl)) (pa_cons (pe_ix (r := rIxT K) ix_tup (pv 0) pe_int (fun _ _ => rfl)) (pa_cons (pe_ix (r := rIxT K) ix_tup (pv 0) pe_int (fun _ _ => rfl)) (pa_cons pe_non (pa_cons pe_non (pa_cons (pe_ix (r := rIxT K) ix_tup (pv 0) pe_int (fun _ _ => rfl)) (pa_cons pe_non (pa_cons (pe_ix (r := rIxT K) ix_tup (pv 0) pe_int (fun _ _ => rfl)) pa_nil))))))))) pa_nil))))) (pss_one (ps_ret pe_bl)) pss_nil)
  (pss_cons (ps_set (i := 2) sc_Lleft_out.nd rfl (Or.inl rfl) (pe_makeN (E := E0) O.k_Rule (ok_Ruleu_initu T O) (hr.mono (by decide)) (by rfl) O.m_Rule O.kb2_foe_high_other_Ruleu_initu passL (pa_cons (pe_ix (r := rIxT K) ix_tup (pv 0) pe_int (fun _ _ => rfl)) pa_nil) (pk_cons (pe_ix (r := rIxT K) ix_tup (pv 0) pe_int (fun _ _ => rfl)) (pk_cons (pe_ix (r := rIxT K) ix_tup (pv 0) pe_int (fun _ _ => rfl)) (pk_cons (pe_ix (r := rIxT K) ix_tup (pv 0) pe_int (fun _ _ => rfl)) pk_nil)))))
  (pss_cons (ps_if (pt_not (pt_val (pe_call (ok_Lis_rule T O) (hr.mono (by decide)) (by rfl) O.m_Lis_rule O.F_Lis_rule.kp O.b_Lis_rule .nil pass0 (pa_cons (pv 2) (pa_cons (pe_tup (pa_cons (pe_ix (r := rIxT K) ix_tup (pv 0) pe_int (fun _ _ => rfl)) (pa_cons (pe_tup pa_nil) (pa_cons pe_non (pa_cons (pe_ix (r := rIxT K) ix_tup (pv 0) pe_int (fun _ _ => rfl)) (pa_cons (pe_ix (r := rIxT K) ix_tup (pv 0) pe_int (fun _ _ => rfl)) (pa_cons pe_int (pa_cons (pe_ix (r := rIxT K) ix_tup (pv 0) pe_int (fun _ _ => rfl)) (pa_cons pe_non pa_nil))))))))) pa_nil))))) (pss_one (ps_ret pe_bl)) pss_nil)
  (pss_cons (ps_if (pt_not (pt_val (pe_call (ok_Lis_rule T O) (hr.mono (by decide)) (by rfl) O.m_Lis_rule O.F_Lis_rule.kp O.b_Lis_rule .nil pass0 (pa_cons (pe_make (E := E0) O.k_Rule (ok_Ruleu_initu T O) (hr.mono (by decide)) (by rfl) O.m_Rule O.b7_Ruleu_initu.2 O.b7_Ruleu_initu.1 passL (pa_cons (pe_ix (r := rIxT K) ix_tup (pv 0) pe_int (fun _ _ => rfl)) pa_nil)) (pa_cons (pe_op (r := rCatT K) op_catT (pe_slice (r := rSlT K) sl_tup (pv 0) po_none (po_some pe_int)) (pe_slice (r := rSlT K) sl_tup (pv 1) (po_some pe_int) po_none)) pa_nil))))) (pss_one (ps_ret pe_bl)) pss_nil)
  (pss_cons (ps_if (pt_not (pt_val (pe_call (ok_Lis_rule T O) (hr.mono (by decide)) (by rfl) O.m_Lis_rule O.F_Lis_rule.kp O.b_Lis_rule .nil pass0 (pa_cons (pe_make (E := E0) O.k_Rule (ok_Ruleu_initu T O) (hr.mono (by decide)) (by rfl) O.m_Rule O.b6_Ruleu_initu.2 O.b6_Ruleu_initu.1 passL (pa_cons (pe_ix (r := rIxT K) ix_tup (pv 0) pe_int (fun _ _ => rfl)) (pa_cons (pe_ix (r := rIxT K) ix_tup (pv 0) pe_int (fun _ _ => rfl)) pa_nil))) (pa_cons (pe_op (r := rCatT K) op_catT (pe_slice (r := rSlT K) sl_tup (pv 0) po_none (po_some pe_int)) (pe_slice (r := rSlT K) sl_tup (pv 1) (po_some pe_int) po_none)) pa_nil))))) (pss_one (ps_ret pe_bl)) pss_nil)
  (pss_cons (ps_if (pt_not (pt_val (pe_call (ok_Lis_rule T O) (hr.mono (by decide)) (by rfl) O.m_Lis_rule O.F_Lis_rule.kp O.b_Lis_rule .nil pass0 (pa_cons (pe_make (E := E0) O.k_Rule (ok_Ruleu_initu T O) (hr.mono (by decide)) (by rfl) O.m_Rule O.b4_Ruleu_initu.2 O.b4_Ruleu_initu.1 passL (pa_cons (pe_ix (r := rIxT K) ix_tup (pv 0) pe_int (fun _ _ => rfl)) (pa_cons (pe_ix (r := rIxT K) ix_tup (pv 0) pe_int (fun _ _ => rfl)) (pa_cons (pe_ix (r := rIxT K) ix_tup (pv 0) pe_int (fun _ _ => rfl)) (pa_cons (pe_ix (r := rIxT K) ix_tup (pv 0) pe_int (fun _ _ => rfl)) pa_nil))))) (pa_cons (pe_op (r := rCatT K) op_catT (pe_slice (r := rSlT K) sl_tup (pv 0) po_none (po_some pe_int)) (pe_slice (r := rSlT K) sl_tup (pv 1) (po_some pe_int) po_none)) pa_nil))))) (pss_one (ps_ret pe_bl)) pss_nil)
  (pss_cons (ps_if (pt_not (pt_val (pe_call (ok_Lis_rule T O) (hr.mono (by decide)) (by rfl) O.m_Lis_rule O.F_Lis_rule.kp O.b_Lis_rule .nil pass0 (pa_cons (pe_make (E := E0) O.k_Rule (ok_Ruleu_initu T O) (hr.mono (by decide)) (by rfl) O.m_Rule O.b2_Ruleu_initu.2 O.b2_Ruleu_initu.1 passL (pa_cons (pe_ix (r := rIxT K) ix_tup (pv 0) pe_int (fun _ _ => rfl)) (pa_cons (pe_ix (r := rIxT K) ix_tup (pv 0) pe_int (fun _ _ => rfl)) (pa_cons (pe_ix (r := rIxT K) ix_tup (pv 0) pe_int (fun _ _ => rfl)) (pa_cons (pe_ix (r := rIxT K) ix_tup (pv 0) pe_int (fun _ _ => rfl)) (pa_cons (pe_ix (r := rIxT K) ix_tup (pv 0) pe_int (fun _ _ => rfl)) (pa_cons (pe_ix (r := rIxT K) ix_tup (pv 0) pe_int (fun _ _ => rfl)) pa_nil))))))) (pa_cons (pe_op (r := rCatT K) op_catT (pe_slice (r := rSlT K) sl_tup (pv 0) po_none (po_some pe_int)) (pe_slice (r := rSlT K) sl_tup (pv 1) (po_some pe_int) po_none)) pa_nil))))) (pss_one (ps_ret pe_bl)) pss_nil)
  (pss_one (ps_ret (pe_call (ok_Lis_rule T O) (hr.mono (by decide)) (by rfl) O.m_Lis_rule O.F_Lis_rule.kp O.b_Lis_rule .nil pass0 (pa_cons (pe_make (E := E0) O.k_Rule (ok_Ruleu_initu T O) (hr.mono (by decide)) (by rfl) O.m_Rule O.b1_Ruleu_initu.2 O.b1_Ruleu_initu.1 passL (pa_cons (pe_ix (r := rIxT K) ix_tup (pv 0) pe_int (fun _ _ => rfl)) (pa_cons (pe_ix (r := rIxT K) ix_tup (pv 0) pe_int (fun _ _ => rfl)) (pa_cons (pe_ix (r := rIxT K) ix_tup (pv 0) pe_int (fun _ _ => rfl)) (pa_cons (pe_ix (r := rIxT K) ix_tup (pv 0) pe_int (fun _ _ => rfl)) (pa_cons (pe_ix (r := rIxT K) ix_tup (pv 0) pe_int (fun _ _ => rfl)) (pa_cons (pe_ix (r := rIxT K) ix_tup (pv 0) pe_int (fun _ _ => rfl)) (pa_cons (pe_ix (r := rIxT K) ix_tup (pv 0) pe_int (fun _ _ => rfl)) pa_nil)))))))) (pa_cons (pe_op (r := rCatT K) op_catT (pe_slice (r := rSlT K) sl_tup (pv 0) po_none (po_some pe_int)) (pe_slice (r := rSlT K) sl_tup (pv 1) (po_some pe_int) po_none)) pa_nil)))))))))))))), ?_⟩
  obtain ⟨wd, d1, d2, d3, d4, lo, d6, d7, gr, tok⟩ := id hd
  have ge := gr.eq
  subst ge
  obtain ⟨t, xs, rfl, sq, al⟩ := tup_at hx
  obtain ⟨x0, x1, x2, x3, x4, x5, x6, x7, rfl, v0, v1, v2, v3, v4, v5, v6, v7⟩ := all8v al
  walk_at "r"
  intro g0 hg0
  walk_at "r"
  intro g1 hg1
  have s1 := (Jv.same_new (u := .tup []) hg0).trans (Jv.same_new (u := .tup [V.int 0, .ref g0, .non, .non, .non, .int 0, .non, .non]) hg1)
  have us : SqT K (upd (upd H g0 (.tup [])) g1 (.tup [V.int 0, .ref g0, .non, .non, .non, .int 0, .non, .non])) g1 [V.int 0, .ref g0, .non, .non, .non, .int 0, .non, .non] := Jv.sqT_at upd_same
  have ul : Jv.DvAll K (upd (upd H g0 (.tup [])) g1 (.tup [V.int 0, .ref g0, .non, .non, .non, .int 0, .non, .non])) [V.int 0, .ref g0, .non, .non, .non, .int 0, .non, .non] [.int 0, .tuple [], .none, .none, .none, .int 0, .none, .none] :=
    .cons (.int 0) (.cons (.tup (Jv.sqT_at ((Jv.same_new hg1) _ _ upd_same)) .nil) (.cons .non (.cons .non (.cons .non (.cons (.int 0) (.cons .non (.cons .non .nil)))))))
  generalize upd (upd H g0 (.tup [])) g1 (.tup [V.int 0, .ref g0, .non, .non, .non, .int 0, .non, .non]) = H1 at s1 us ul
  have sq1 := Jv.Same.sqT s1 sq
  walk_at "r"
  refine Jv.r_makeN (K := K) ?_
  walk_at "r"
  refine ⟨rfl, rfl, fun y dy hy hdy ne => ?_⟩
  have cn : Cnd .none := .inl rfl
  have rd1 : RuleD [.int wd, d1, d2, .none, .none, .int lo, .none, d7] := rule_set gr.w6 tok gr.c2 cn cn gr.l6 (.inl rfl) gr.sd rfl
  have rd2 : RuleD [.int wd, .tuple [], .none, d3, d4, .int 0, d6, .none] := rule_set gr.w6 none_ok cn gr.c3 gr.c4 (by decide) (by rcases gr.hi with e | ⟨h, e, a, b⟩; exact .inl e; exact .inr ⟨h, e, by have := gr.l6; omega, b⟩) (.inl rfl) rfl
  have w0 := v0.same s1
  have w1 := v1.same s1
  have w2 := v2.same s1
  have w3 := v3.same s1
  have w4 := v4.same s1
  have w5 := v5.same s1
  have w6 := v6.same s1
  have w7 := v7.same s1
  refine init_ok (vs := [x0, x1, x2, .non, .non, x5, .non, x7]) hy hdy (.cons w0 (.cons w1 (.cons w2 (.cons .non (.cons .non (.cons w5 (.cons .non (.cons w7 .nil)))))))) rd1 fun H2 s2 ra => ⟨rfl, ?_⟩
  walk_at "r"
  have sq2 := Jv.Same.sqT s2 sq1
  intro g2 hg2
  have s3 := Jv.same_new (u := .tup [x0, x1, x2, .non, .non, x5, .non, x7]) hg2
  have s13 := s2.trans s3
  walk_at "r"
  refine ⟨y, _, _, rfl, ra.same s3, .tup (Jv.sqT_at upd_same) (.cons (w0.same s13) (.cons (w1.same s13) (.cons (w2.same s13) (.cons .non (.cons .non (.cons (w5.same s13) (.cons .non (.cons (w7.same s13) .nil)))))))), rule_pl rd1, fun H4 s4 => ?_⟩
  replace s1 := s1.trans (s13.trans s4)
  replace us := Jv.Same.sqT (s13.trans s4) us
  replace ul := ul.same (s13.trans s4)
  clear ra s3 s4 s13 hg2 s2 hy hdy ne sq1 w0 w1 w2 w3 w4 w5 w6 w7 sq2
  have sq1 := Jv.Same.sqT s1 sq
  have w0 := v0.same s1
  have w1 := v1.same s1
  have w2 := v2.same s1
  have w3 := v3.same s1
  have w4 := v4.same s1
  have w5 := v5.same s1
  have w6 := v6.same s1
  have w7 := v7.same s1
  walk_at "r"
  refine Jv.r_makeN (K := K) ?_
  walk_at "r"
  refine ⟨rfl, rfl, fun y dy hy hdy ne => ?_⟩
  refine init_ok (vs := [x0, .ref T.w0_Ruleu_initu, .non, x3, x4, .int 0, x6, .non]) hy hdy (.cons w0 (.cons (.tup (O.y0_Ruleu_initu _) .nil) (.cons .non (.cons w3 (.cons w4 (.cons (.int 0) (.cons w6 (.cons .non .nil)))))))) rd2 fun H2 s2 ra => ⟨rfl, ?_⟩
  have sq2 := Jv.Same.sqT s2 sq1
  walk_at "r"
  intro g3 hg3
  walk_at "r"
  intro g2 hg2
  have s3 := (Jv.same_new (u := .tup []) hg3).trans (Jv.same_new (u := .tup [x0, .ref g3, .non, x3, x4, .int 0, x6, .non]) hg2)
  have s13 := s2.trans s3
  walk_at "r"
  refine ⟨y, _, _, rfl, ra.same s3, .tup (Jv.sqT_at upd_same) (.cons (w0.same s13) (.cons (.tup (Jv.sqT_at ((Jv.same_new hg2) _ _ upd_same)) .nil) (.cons .non (.cons (w3.same s13) (.cons (w4.same s13) (.cons (.int 0) (.cons (w6.same s13) (.cons .non .nil)))))))), rule_pl rd2, fun H4 s4 => ?_⟩
  replace s1 := s1.trans (s13.trans s4)
  replace us := Jv.Same.sqT (s13.trans s4) us
  replace ul := ul.same (s13.trans s4)
  clear ra s3 s4 s13 hg2 s2 hy hdy ne sq1 w0 w1 w2 w3 w4 w5 w6 w7 sq2
  have sq1 := Jv.Same.sqT s1 sq
  have w0 := v0.same s1
  walk_at "r"
  refine Jv.r_make0 ?_
  walk_at "r"
  intro y dy hy hdy ne
  have rd3 : RuleD [.int wd, .tuple [], .none, .none, .none, .int 0, .none, .none] := rule_set gr.w6 none_ok cn cn cn (by decide) (.inl rfl) (.inl rfl) rfl
  refine init_ok (vs := [x0, .ref T.w0_Ruleu_initu, .non, .non, .non, .int 0, .non, .non]) hy hdy (.cons w0 (.cons (.tup (O.y0_Ruleu_initu _) .nil) (.cons .non (.cons .non (.cons .non (.cons (.int 0) (.cons .non (.cons .non .nil)))))))) rd3 fun H2 s2 ra => ⟨rfl, ?_⟩
  have sq2 := Jv.Same.sqT s2 sq1
  walk_at "r"
  refine Jv.r_cut 1 rfl rfl sq2 (Jv.Same.sqT s2 us) (by decide) (show 1 < 8 by decide) (show 1 < 8 by decide) (show 8 + 8 ≤ sizeLine by decide +kernel) fun c H3 s3 sc => ?_
  have s13 := s2.trans s3
  walk_at "r"
  refine ⟨y, _, _, rfl, ra.same s3, .tup sc (.cons (w0.same s13) ((ul.same s13).dropn 1)), rule_pl rd3, fun H4 s4 => ?_⟩
  replace s1 := s1.trans (s13.trans s4)
  replace us := Jv.Same.sqT (s13.trans s4) us
  replace ul := ul.same (s13.trans s4)
  clear ra s3 s4 s13 s2 hy hdy ne sq1 w0 sq2 rd3 sc
  have sq1 := Jv.Same.sqT s1 sq
  have w0 := v0.same s1
  walk_at "r"
  have w1 := v1.same s1
  refine Jv.r_make0 ?_
  walk_at "r"
  intro y dy hy hdy ne
  have rd3 : RuleD [.int wd, d1, .none, .none, .none, .int 0, .none, .none] := rule_set gr.w6 tok cn cn cn (by decide) (.inl rfl) (.inl rfl) rfl
  refine init_ok (vs := [x0, x1, .non, .non, .non, .int 0, .non, .non]) hy hdy (.cons w0 (.cons w1 (.cons .non (.cons .non (.cons .non (.cons (.int 0) (.cons .non (.cons .non .nil)))))))) rd3 fun H2 s2 ra => ⟨rfl, ?_⟩
  have sq2 := Jv.Same.sqT s2 sq1
  walk_at "r"
  refine Jv.r_cut 2 rfl rfl sq2 (Jv.Same.sqT s2 us) (by decide) (show 2 < 8 by decide) (show 2 < 8 by decide) (show 8 + 8 ≤ sizeLine by decide +kernel) fun c H3 s3 sc => ?_
  have s13 := s2.trans s3
  walk_at "r"
  refine ⟨y, _, _, rfl, ra.same s3, .tup sc (.cons (w0.same s13) (.cons (w1.same s13) ((ul.same s13).dropn 2))), rule_pl rd3, fun H4 s4 => ?_⟩
  replace s1 := s1.trans (s13.trans s4)
  replace us := Jv.Same.sqT (s13.trans s4) us
  replace ul := ul.same (s13.trans s4)
  clear ra s3 s4 s13 s2 hy hdy ne sq1 w0 w1 sq2 rd3 sc
  have sq1 := Jv.Same.sqT s1 sq
  have w0 := v0.same s1
  walk_at "r"
  have w1 := v1.same s1
  have w2 := v2.same s1
  have w3 := v3.same s1
  refine Jv.r_make0 ?_
  walk_at "r"
  intro y dy hy hdy ne
  have rd3 : RuleD [.int wd, d1, d2, d3, .none, .int 0, .none, .none] := rule_set gr.w6 tok gr.c2 gr.c3 cn (by decide) (.inl rfl) (.inl rfl) rfl
  refine init_ok (vs := [x0, x1, x2, x3, .non, .int 0, .non, .non]) hy hdy (.cons w0 (.cons w1 (.cons w2 (.cons w3 (.cons .non (.cons (.int 0) (.cons .non (.cons .non .nil)))))))) rd3 fun H2 s2 ra => ⟨rfl, ?_⟩
  have sq2 := Jv.Same.sqT s2 sq1
  walk_at "r"
  refine Jv.r_cut 4 rfl rfl sq2 (Jv.Same.sqT s2 us) (by decide) (show 4 < 8 by decide) (show 4 < 8 by decide) (show 8 + 8 ≤ sizeLine by decide +kernel) fun c H3 s3 sc => ?_
  have s13 := s2.trans s3
  walk_at "r"
  refine ⟨y, _, _, rfl, ra.same s3, .tup sc (.cons (w0.same s13) (.cons (w1.same s13) (.cons (w2.same s13) (.cons (w3.same s13) ((ul.same s13).dropn 4))))), rule_pl rd3, fun H4 s4 => ?_⟩
  replace s1 := s1.trans (s13.trans s4)
  replace us := Jv.Same.sqT (s13.trans s4) us
  replace ul := ul.same (s13.trans s4)
  clear ra s3 s4 s13 s2 hy hdy ne sq1 w0 w1 w2 w3 sq2 rd3 sc
  have sq1 := Jv.Same.sqT s1 sq
  have w0 := v0.same s1
  walk_at "r"
  have w1 := v1.same s1
  have w2 := v2.same s1
  have w3 := v3.same s1
  have w4 := v4.same s1
  have w5 := v5.same s1
  refine Jv.r_make0 ?_
  walk_at "r"
  intro y dy hy hdy ne
  have rd3 : RuleD [.int wd, d1, d2, d3, d4, .int lo, .none, .none] := rule_set gr.w6 tok gr.c2 gr.c3 gr.c4 gr.l6 (.inl rfl) (.inl rfl) rfl
  refine init_ok (vs := [x0, x1, x2, x3, x4, x5, .non, .non]) hy hdy (.cons w0 (.cons w1 (.cons w2 (.cons w3 (.cons w4 (.cons w5 (.cons .non (.cons .non .nil)))))))) rd3 fun H2 s2 ra => ⟨rfl, ?_⟩
  have sq2 := Jv.Same.sqT s2 sq1
  walk_at "r"
  refine Jv.r_cut 6 rfl rfl sq2 (Jv.Same.sqT s2 us) (by decide) (show 6 < 8 by decide) (show 6 < 8 by decide) (show 8 + 8 ≤ sizeLine by decide +kernel) fun c H3 s3 sc => ?_
  have s13 := s2.trans s3
  walk_at "r"
  refine ⟨y, _, _, rfl, ra.same s3, .tup sc (.cons (w0.same s13) (.cons (w1.same s13) (.cons (w2.same s13) (.cons (w3.same s13) (.cons (w4.same s13) (.cons (w5.same s13) ((ul.same s13).dropn 6))))))), rule_pl rd3, fun H4 s4 => ?_⟩
  replace s1 := s1.trans (s13.trans s4)
  replace us := Jv.Same.sqT (s13.trans s4) us
  replace ul := ul.same (s13.trans s4)
  clear ra s3 s4 s13 s2 hy hdy ne sq1 w0 w1 w2 w3 w4 w5 sq2 rd3 sc
  have sq1 := Jv.Same.sqT s1 sq
  have w0 := v0.same s1
  walk_at "r"
  have w1 := v1.same s1
  have w2 := v2.same s1
  have w3 := v3.same s1
  have w4 := v4.same s1
  have w5 := v5.same s1
  have w6 := v6.same s1
  refine Jv.r_make0 ?_
  walk_at "r"
  intro y dy hy hdy ne
  have rd3 : RuleD [.int wd, d1, d2, d3, d4, .int lo, d6, .none] := rule_set gr.w6 tok gr.c2 gr.c3 gr.c4 gr.l6 gr.hi (.inl rfl) rfl
  refine init_ok (vs := [x0, x1, x2, x3, x4, x5, x6, .non]) hy hdy (.cons w0 (.cons w1 (.cons w2 (.cons w3 (.cons w4 (.cons w5 (.cons w6 (.cons .non .nil)))))))) rd3 fun H2 s2 ra => ⟨rfl, ?_⟩
  have sq2 := Jv.Same.sqT s2 sq1
  walk_at "r"
  refine Jv.r_cut 7 rfl rfl sq2 (Jv.Same.sqT s2 us) (by decide) (show 7 < 8 by decide) (show 7 < 8 by decide) (show 8 + 8 ≤ sizeLine by decide +kernel) fun c H3 s3 sc => ?_
  have s13 := s2.trans s3
  walk_at "r"
  refine ⟨y, _, _, rfl, ra.same s3, .tup sc (.cons (w0.same s13) (.cons (w1.same s13) (.cons (w2.same s13) (.cons (w3.same s13) (.cons (w4.same s13) (.cons (w5.same s13) (.cons (w6.same s13) ((ul.same s13).dropn 7)))))))), rule_pl rd3, fun H4 s4 => ?_⟩
  walk_at "r"
  exact q H4 (s1.trans (s13.trans s4))
end
end K17

namespace K17
open PySem PySem.Spec PyProof.Rows L2
/-! ### raised by all -/
theorem up_pl {b : Int} {d : PyData} (h : Jv.seqD d = none ∧ Jv.boolD d = false) : Pl 2 (upD b d) := by
  cases d with
  | int i =>
    show Pl 2 (if 1 ≤ i then PyData.int (i + b) else .int i)
    by_cases h1 : 1 ≤ i
    · rw [if_pos h1]; exact .inl ⟨rfl, rfl⟩
    · rw [if_neg h1]; exact .inl ⟨rfl, rfl⟩
  | none => exact .inl h
  | bool _ => exact .inl h
  | str _ => exact .inl h
  | list _ => exact .inl h
  | tuple _ => exact .inl h
  | dict _ => exact .inl h
theorem hi_pl {b : Int} {d : PyData} (h : Jv.seqD d = none ∧ Jv.boolD d = false) : Pl 2 (hiD b d) := by
  cases d with
  | int i => exact .inl ⟨rfl, rfl⟩
  | none => exact .inl h
  | bool _ => exact .inl h
  | str _ => exact .inl h
  | list _ => exact .inl h
  | tuple _ => exact .inl h
  | dict _ => exact .inl h
theorem cnd_flat {d : PyData} (h : Cnd d) : Jv.seqD d = none ∧ Jv.boolD d = false := by
  rcases h with rfl | rfl | ⟨i, rfl, _⟩ <;> exact ⟨rfl, rfl⟩
theorem raise_pl {b : Int} {ds : List PyData} (h : RuleD ds) : Pl 3 (.tuple (raiseD b ds)) := by
  obtain ⟨w, d1, d2, d3, d4, lo, d6, d7, gr, tok⟩ := h
  rw [gr.eq]
  refine .inr ⟨_, rfl, by simp [raiseD], fun d m => ?_⟩
  simp only [raiseD, List.mem_cons, List.not_mem_nil, or_false] at m
  rcases m with rfl | rfl | rfl | rfl | rfl | rfl | rfl | rfl
  · exact up_pl ⟨rfl, rfl⟩
  · exact tok.pl
  · exact up_pl (cnd_flat gr.c2)
  · exact up_pl (cnd_flat gr.c3)
  · exact up_pl (cnd_flat gr.c4)
  · exact up_pl ⟨rfl, rfl⟩
  · rcases gr.hi with rfl | ⟨h, rfl, _⟩ <;> exact hi_pl ⟨rfl, rfl⟩
  · rcases gr.sd with rfl | rfl | rfl <;> exact .inl ⟨rfl, rfl⟩
def sp_Lraises (K : PySem.W.Frag) : Sp := fun vs H Q _ => ∃ p l x ds, vs = [.ref p, x] ∧ Jv.Hand H p l ∧ Jv.Dv K (Jv.hide [p] H) x (.tuple ds) ∧ RuleD ds ∧
  ∀ H', Jv.Kp p H H' → Jv.Hand H' p l → Q (.bl true) H'
section
variable {P : Program} {w : World} {K : PySem.W.Frag} {mg : Str → Option Value} {base : Heap}
theorem ok_Lraises (T : Tx) (O : Ok K mg T) : FnOk P w K mg base CX0 9 T.f_Lraises T.d_Lraises ["_law_hand_here", "_law_rule_here"] (sp_Lraises K) := by
  refine O.F_Lraises.ok sc_Lraises (fun vs H Q E h => by obtain ⟨_, _, _, _, rfl, _⟩ := h; rfl) (fun cdv A outer s H vs Q E hr h => ?_)
  obtain ⟨p, l, x, ds, rfl, hh, hx, hd, q⟩ := h
  refine ⟨_, (pss_cons (ps_set (i := 2) sc_Lraises.nd rfl (Or.inl rfl) (pe_call (ok_Lmade T O) (hr.mono (by decide)) (by rfl) O.m_Lmade O.F_Lmade.kp O.b_Lmade .nil pass0 (pa_cons (pv 0) (pa_cons (pv 1) pa_nil))))
  (pss_cons (ps_set (i := 3) sc_Lraises.nd rfl (Or.inl rfl) (pe_call (ok_Ldraw T O) (hr.mono (by decide)) (by rfl) O.m_Ldraw O.F_Ldraw.kp O.b_Ldraw .nil pass0 (pa_cons (pv 0) (pa_cons pe_int pa_nil))))
  (pss_cons (ps_for PassesOwn.never rfl (pi_range1 (by rfl) O.z_range (pa_cons pe_int pa_nil)) (pg_name (i := 4) sc_Lraises.nd rfl (Or.inl rfl)) (pss_cons (ps_set (i := 5) sc_Lraises.nd rfl (Or.inl rfl) (pe_op op_mod (pe_callTy (r := Jv.rInt) Jv.cr_int (by rfl) O.z_int (by decide +kernel) (pa_cons (pe_op op_add (pv 3) (pv 4)) pa_nil)) pe_int))
  (pss_cons (ps_set (i := 6) sc_Lraises.nd rfl (Or.inl rfl) (pe_call (ok_Lraised T O) (hr.mono (by decide)) (by rfl) O.m_Lraised O.F_Lraised.kp O.b_Lraised .nil pass0 (pa_cons (pv 1) (pa_cons (pv 5) pa_nil))))
  (pss_cons (ps_set (i := 7) sc_Lraises.nd rfl (Or.inl rfl) (pe_call (ok_Lraise T O) (hr.mono (by decide)) (by rfl) O.m_Lraise O.F_Lraise.kp O.b_Lraise .nil pass0 (pa_cons (pv 2) (pa_cons (pv 5) pa_nil))))
  (pss_cons (ps_if (PW.pt (pw_and (pt_cmpR op_isN (pv 6) pe_non (nomark _)) (pw_and1 (pt_cmpR op_ne (pv 7) pe_str (nomark _))))) (pss_one (ps_ret pe_bl)) pss_nil)
  (pss_one (ps_if (PW.pt (pw_and (pt_cmpR op_notN (pv 6) pe_non (nomark _)) (pw_and1 (pt_not (pt_val (pe_call (ok_Lis_rule T O) (hr.mono (by decide)) (by rfl) O.m_Lis_rule O.F_Lis_rule.kp O.b_Lis_rule .nil pass0 (pa_cons (pv 7) (pa_cons (pv 6) pa_nil)))))))) (pss_one (ps_ret pe_bl)) pss_nil)))))))
  (pss_cons (ps_for PassesOwn.never rfl (show PI _ _ _ (iList K _) from pi_list (pe_lst (pa_cons (pe_un un_neg pe_int) (pa_cons pe_int (pa_cons pe_bl (pa_cons pe_non (pa_cons pe_str (pa_cons (pe_op op_pow pe_int pe_int) pa_nil)))))))) (pg_name (i := 5) sc_Lraises.nd rfl (Or.inl rfl)) (pss_one (ps_if (pt_cmpR op_ne (pe_call (ok_Lraise T O) (hr.mono (by decide)) (by rfl) O.m_Lraise O.F_Lraise.kp O.b_Lraise .nil pass0 (pa_cons (pv 2) (pa_cons (pv 5) pa_nil))) pe_str (nomark _)) (pss_one (ps_ret pe_bl)) pss_nil)))
  (pss_one (ps_ret (pe_call (ok_Lis_rule T O) (hr.mono (by decide)) (by rfl) O.m_Lis_rule O.F_Lis_rule.kp O.b_Lis_rule .nil pass0 (pa_cons (pv 2) (pa_cons (pv 1) pa_nil))))))))), ?_⟩
  walk_at "r"
  refine ⟨p, l, _, ds, rfl, hh, hx, hd, fun r1 H1 kp1 hh1 n1 ra1 => ?_⟩
  walk_at "r"
  refine ⟨p, l, 7, rfl, hh1, ⟨by decide, Jv.log_small (by decide) (by decide)⟩, fun f0 H2 f1 f2 kp2 hh2 => ?_⟩
  have kp02 := kp1.trans kp2
  have hx2 := hx.same (Jv.Kp.hide kp02)
  have ra2 := ra1.same (Jv.Kp.hide kp2)
  clear kp1 kp2 hh hh1 ra1 n1
  walk_at "r"
  refine ⟨_, rfl, by omega, by omega, for_range (lo := 0) (n := 7) (fun j σ H' => ∃ y4 y5 y6 y7, σ = [some (.ref p), some x, some (.ref r1), some (.int f0), y4, y5, y6, y7] ∧ Jv.Kp p H2 H' ∧ Jv.Hand H' p l) ⟨_, _, _, _, rfl, .same (Same.refl _), hh2⟩ ?_ ?_⟩
  · rintro j σ H4 hj ⟨y4, y5, y6, y7, rfl, kp4, hh4⟩
    have S4 := Jv.Kp.hide kp4
    have hx4 := (hx2.same S4).same (Jv.hide_le (N := [p]))
    have ra4 := (ra2.same S4).same (Jv.hide_le (N := [p]))
    walk_at "r"
    refine ⟨x, ds, (f0 + (0 + (j : Int))) % 7, rfl, hx4, hd, by omega, fun hb H5 s5 => ?_, fun hb v H5 s5 dv => ?_⟩
    · walk_at "r"
      refine ⟨r1, _, _, ds, rfl, ra4.same s5, hd.gr, .int _, .inr ⟨.inr ⟨_, rfl, by omega, by omega, hb⟩, fun H6 s6 => ?_⟩⟩
      walk_at "r"
      exact ⟨_, _, _, _, rfl, kp4.trans (Jv.Kp.same (s5.trans s6)), (hh4.same s5).same s6⟩
    · obtain ⟨tv, vs, rfl, sqv, alv⟩ := tup_at dv
      walk_at "r"
      refine ⟨r1, _, _, ds, rfl, ra4.same s5, hd.gr, .int _, .inl ⟨_, rfl, by omega, by omega, hb, fun r H6 s6 rr => ?_⟩⟩
      walk_at "r"
      refine ⟨r, _, _, rfl, rr, dv.same s6, raise_pl hd, fun H7 s7 => ?_⟩
      walk_at "r"
      exact ⟨_, _, _, _, rfl, kp4.trans (Jv.Kp.same ((s5.trans s6).trans s7)), ((hh4.same s5).same s6).same s7⟩
  · rintro σ H4 ⟨y4, y5, y6, y7, rfl, kp4, hh4⟩
    walk_at "r"
    intro g hg
    have s5 := Jv.same_new (u := .lst [V.int (-1), V.int 7, V.bl true, V.non, V.str (Str.ofString "1"), V.int (10 ^ Int.toNat 20)]) hg
    have ng := hh4.ne2 hg
    have eg : upd H4 g (.lst [V.int (-1), V.int 7, V.bl true, V.non, V.str (Str.ofString "1"), V.int (10 ^ Int.toNat 20)]) g = some (.lst [V.int (-1), V.int 7, V.bl true, V.non, V.str (Str.ofString "1"), V.int (10 ^ Int.toNat 20)]) := upd_same
    have hh5 := hh4.same s5
    have kp5 := kp4.trans (Jv.Kp.same s5)
    generalize upd H4 g (.lst [V.int (-1), V.int 7, V.bl true, V.non, V.str (Str.ofString "1"), V.int (10 ^ Int.toNat 20)]) = H5 at eg hh5 kp5
    refine ⟨g, rfl, ⟨_, Jv.sqL_at eg⟩, for_list (xs := [V.int (-1), V.int 7, V.bl true, V.non, V.str (Str.ofString "1"), V.int (10 ^ Int.toNat 20)]) (fun j σ H' => ∃ y5, σ = [some (.ref p), some x, some (.ref r1), some (.int f0), y4, y5, y6, y7] ∧ Same H5 H') ⟨_, rfl, Same.refl _⟩ (fun i σ H' _ ⟨_, _, s⟩ => Jv.sqL_at (s _ _ eg)) ?_ ?_⟩
    · rintro j v σ H6 hv ⟨y5, rfl, s6⟩
      obtain ⟨dv, hdv, hw⟩ : ∃ d, (∀ G, Jv.Dv K G v d) ∧ Jv.wholeD d (.int 0) (.int 6) = false := by
        have m := List.mem_of_getElem? hv
        simp only [List.mem_cons, List.not_mem_nil, or_false] at m
        rcases m with rfl | rfl | rfl | rfl | rfl | rfl
        · exact ⟨.int (-1), fun G => .int _, by decide +kernel⟩
        · exact ⟨.int 7, fun G => .int _, by decide +kernel⟩
        · exact ⟨.bool true, fun G => .bl _, by decide +kernel⟩
        · exact ⟨.none, fun G => .non, by decide +kernel⟩
        · exact ⟨.str (Str.ofString "1"), fun G => .str _, by decide +kernel⟩
        · exact ⟨.int (10 ^ Int.toNat 20), fun G => .int _, by decide +kernel⟩
      have kp6 := kp5.trans (Jv.Kp.same s6)
      walk_at "r"
      refine ⟨r1, _, _, ds, rfl, (ra2.same (Jv.Kp.hide kp6)).same (Jv.hide_le (N := [p])), hd.gr, hdv _, .inr ⟨.inl hw, fun H7 s7 => ?_⟩⟩
      walk_at "r"
      exact ⟨_, rfl, s6.trans s7⟩
    · rintro σ H6 ⟨y5, rfl, s6⟩
      have kp6 := kp5.trans (Jv.Kp.same s6)
      walk_at "r"
      refine ⟨r1, _, ds, rfl, (ra2.same (Jv.Kp.hide kp6)).same Jv.hide_le, (hx2.same (Jv.Kp.hide kp6)).same Jv.hide_le, rule_pl hd, fun H7 s7 => ?_⟩
      walk_at "r"
      exact q H7 (kp02.trans (kp6.trans (Jv.Kp.same s7))) ((hh5.same s6).same s7)
end
end K17

namespace K17
open PySem PySem.Spec PyProof.Rows L2
/-! ### wrong things -/
def Bad (lo : Int) : Nat → PyData → Prop
  | 0, e => Jv.wholeD e (.int 0) (.int 6) = false
  | 1, e => testsD e = false ∧ fewTs e
  | 5, e => Jv.wholeD e (.int 0) (.int 6) = false
  | 6, e => noneD e = false ∧ Jv.wholeD e (.int lo) (.int 6) = false
  | 7, e => noneD e = false ∧ Jv.wholeD e (.int 0) (.int 1) = false
  | _, e => condD e = false ∧ SeqAt.shaped e = true
def sp_Lodd (K : PySem.W.Frag) : Sp := fun vs H Q _ => ∃ x w d1 d2 d3 d4 lo d6 d7 N, ∃ k : Nat, vs = [.int k, x] ∧ k < 8 ∧ Jv.Held N H ∧ Jv.Dv K H x (.tuple [.int w, d1, d2, d3, d4, .int lo, d6, d7]) ∧ (0 ≤ lo ∧ lo ≤ 6) ∧
  ∀ g xs es H', Same H H' → H g = none → H' g = some (.lst xs) → Jv.DvAll K (Jv.hide N H') xs es → (∀ e ∈ es, Bad lo k e) → 0 < xs.length ∧ xs.length ≤ 1000 → Q (.ref g) H'
def oddW : List PyData := [.tuple [.str (Str.ofString "abcdefgh"), .int 0], .tuple [.str (Str.ofString "abcdefgh"), .int 3, .int 2], .tuple [.str (Str.ofString "A"), .int 0, .int 1], .tuple [.str (Str.ofString ""), .int 0, .int 1], .tuple [.str (Str.ofString "abcdefgh"), .int 0, .int 41], .tuple [.str (Str.ofString "abcdefgh"), .int (-1), .int 1], .tuple [.str (Str.ofString "abcdefgh"), .bool true, .int 1], .tuple [.str (Str.ofString "abcdefgh"), .int 0, .bool false], .tuple [.str (Str.ofString "abcdefgh" ++ Str.ofString "i"), .int 0, .int 1], .tuple [.none, .int 0, .int 1], .tuple [.str (Str.ofString "abcdefgh"), .int 0, .int 1, .int 2], .str (Str.ofString "abc"), .none, .int 5]
def oddE : List PyData := ((oddW.map fun d => .list [d]) ++ oddW.map fun d => .list [.tuple [.str (Str.ofString "abcdefgh"), .int 0, .int 40], d]) ++ [.none, .int 5, .str (Str.ofString ""), .list (List.replicate 5 (.tuple [.str (Str.ofString "abcdefgh"), .int 0, .int 0]))]
theorem none_back {H H' : Hp} {g : Addr} (s : Same H H') (n : H' g = none) : H g = none := by
  cases e : H g with
  | none => rfl
  | some o => rw [s _ _ e] at n; cases n
def nfewB : PyData → Bool
  | .str z => decide (z.length ≤ 1000)
  | _ => true
def fewTB (d : PyData) : Bool := match Jv.seqD d with
  | some es => decide (es.length ≤ 100) && es.all nfewB
  | none => true
def fewTsB (d : PyData) : Bool := match Jv.seqD d with
  | some es => decide (es.length ≤ 100) && es.all fewTB
  | none => true
theorem nfew_of {d : PyData} (h : nfewB d = true) : nfew d := fun z e => by subst e; exact of_decide_eq_true h
theorem fewT_of {d : PyData} (h : fewTB d = true) : fewT d := fun es e => by
  unfold fewTB at h
  rw [e] at h
  have h := (Bool.and_eq_true _ _).mp h
  exact ⟨of_decide_eq_true h.1, fun x m => nfew_of (List.all_eq_true.mp h.2 x m)⟩
theorem fewTs_of {d : PyData} (h : fewTsB d = true) : fewTs d := fun es e => by
  unfold fewTsB at h
  rw [e] at h
  have h := (Bool.and_eq_true _ _).mp h
  exact ⟨of_decide_eq_true h.1, fun x m => fewT_of (List.all_eq_true.mp h.2 x m)⟩
theorem all_of {es : List PyData} {f : PyData → Bool} (h : es.all f = true) : ∀ e ∈ es, f e = true := fun e m => List.all_eq_true.mp h e m
theorem grow {K : PySem.W.Frag} {N : List Addr} {H0 H : Hp} {vs us : List V} {ds es : List PyData} {t : Addr} (A : Jv.DvAll K (Jv.hide N H) vs ds) (hN : Jv.Held N H) (S : Same H0 H) (hg : H t = none) (al : Jv.DvAll K (Jv.hide N H) us es) :
    Jv.DvAll K (Jv.hide N (upd H t (.tup us))) (vs ++ [.ref t]) (ds ++ [.tuple es]) ∧ Jv.Held N (upd H t (.tup us)) ∧ Same H0 (upd H t (.tup us)) :=
  ⟨Jv.DvAll.app (A.same (Jv.hide_same (Jv.same_new hg))) (.cons (Jv.dv_new hg hN al) .nil), hN.same (Jv.same_new hg), S.trans (Jv.same_new hg)⟩
section
variable {P : Program} {w : World} {K : PySem.W.Frag} {mg : Str → Option Value} {base : Heap}
theorem ok_Lodd (T : Tx) (O : Ok K mg T) : FnOk P w K mg base CX0 1 T.f_Lodd T.d_Lodd ["_law_place", "_law_rule_here"] (sp_Lodd K) := by
  refine O.F_Lodd.ok sc_Lodd (fun vs H Q E h => by obtain ⟨_, _, _, _, _, _, _, _, _, _, _, rfl, _⟩ := h; rfl) (fun cdv A outer s H vs Q E hr h => ?_)
  obtain ⟨x, wd, d1, d2, d3, d4, lo, d6, d7, N, k, rfl, hk, hN, hx, l6, q⟩ := h
  refine ⟨_, (pss_cons (ps_if (pt_cmpR op_eq (pv 0) pe_int (nomark _)) (pss_one (ps_ret (pe_lst (pa_cons pe_int (pa_cons (pe_un un_neg pe_int) (pa_cons pe_bl (pa_cons pe_non (pa_cons pe_str (pa_cons (pe_op op_pow pe_int pe_int) pa_nil))))))))) pss_nil)
  (pss_cons (ps_if (pt_cmpR op_eq (pv 0) pe_int (nomark _)) (pss_cons (ps_set (i := 2) sc_Lodd.nd rfl (Or.inr rfl) pe_str)
  (pss_cons (ps_set (i := 3) sc_Lodd.nd rfl (Or.inl rfl) (pe_lst (pa_cons (pe_tup (pa_cons (pv 2) (pa_cons pe_int pa_nil))) (pa_cons (pe_tup (pa_cons (pv 2) (pa_cons pe_int (pa_cons pe_int pa_nil)))) (pa_cons (pe_tup (pa_cons pe_str (pa_cons pe_int (pa_cons pe_int pa_nil)))) (pa_cons (pe_tup (pa_cons pe_str (pa_cons pe_int (pa_cons pe_int pa_nil)))) (pa_cons (pe_tup (pa_cons (pv 2) (pa_cons pe_int (pa_cons pe_int pa_nil)))) (pa_cons (pe_tup (pa_cons (pv 2) (pa_cons (pe_un un_neg pe_int) (pa_cons pe_int pa_nil)))) (pa_cons (pe_tup (pa_cons (pv 2) (pa_cons pe_bl (pa_cons pe_int pa_nil)))) (pa_cons (pe_tup (pa_cons (pv 2) (pa_cons pe_int (pa_cons pe_bl pa_nil)))) pa_nil))))))))))
  (pss_cons (ps_set (i := 3) sc_Lodd.nd rfl (Or.inl rfl) (pe_op op_cat (pv 3) (pe_lst (pa_cons (pe_tup (pa_cons (pe_op op_add_str (pv 2) pe_str) (pa_cons pe_int (pa_cons pe_int pa_nil)))) (pa_cons (pe_tup (pa_cons pe_non (pa_cons pe_int (pa_cons pe_int pa_nil)))) (pa_cons (pe_tup (pa_cons (pv 2) (pa_cons pe_int (pa_cons pe_int (pa_cons pe_int pa_nil))))) (pa_cons pe_str (pa_cons pe_non (pa_cons pe_int pa_nil)))))))))
  (pss_one (ps_ret (pe_op op_cat (pe_op op_cat (pe_lc (own := [("_law_one", 4)]) (by rfl) sc_Lodd.nd (show PI _ _ _ (iList K _) from pi_list (pv 3)) (blkOk_by (own := [("_law_one", 4)]) (N := ["_law_place", "_law_rule_here", "_law_name", "_law_wrong", "_law_one"]) (sc := defScope s_Lodd) (scope := ({ kind := .function, names := [(".0", .local), ("_law_one", .local)], isGenerator := false, isCoroutine := false } : Scope)) (by decide +kernel)) (fun _ _ _ _ _ => (pg_name (i := 4) sc_Lodd.nd rfl (Or.inl rfl))) (fun _ _ _ _ _ => pts_nil) (fun _ _ _ _ _ => (pe_lst (pa_cons (pv 4) pa_nil)))) (pe_lc (own := [("_law_one", 4)]) (by rfl) sc_Lodd.nd (show PI _ _ _ (iList K _) from pi_list (pv 3)) (blkOk_by (own := [("_law_one", 4)]) (N := ["_law_place", "_law_rule_here", "_law_name", "_law_wrong", "_law_one"]) (sc := defScope s_Lodd) (scope := ({ kind := .function, names := [(".0", .local), ("_law_one", .local), ("_law_name", .free)], isGenerator := false, isCoroutine := false } : Scope)) (by decide +kernel)) (fun _ _ _ _ _ => (pg_name (i := 4) sc_Lodd.nd rfl (Or.inl rfl))) (fun _ _ _ _ _ => pts_nil) (fun _ _ _ _ _ => (pe_lst (pa_cons (pe_tup (pa_cons (pv 2) (pa_cons pe_int (pa_cons pe_int pa_nil)))) (pa_cons (pv 4) pa_nil)))))) (pe_lst (pa_cons pe_non (pa_cons pe_int (pa_cons pe_str (pa_cons (pe_op op_rep (pe_lst (pa_cons (pe_tup (pa_cons (pv 2) (pa_cons pe_int (pa_cons pe_int pa_nil)))) pa_nil)) pe_int) pa_nil))))))))))) pss_nil)
  (pss_cons (ps_if (pt_cmpR op_lt (pv 0) pe_int (nomark _)) (pss_one (ps_ret (pe_lst (pa_cons pe_str (pa_cons pe_str (pa_cons pe_str (pa_cons pe_int (pa_cons (pe_un un_neg pe_int) (pa_cons pe_bl (pa_cons pe_bl (pa_cons (pe_tup (pa_cons pe_int pa_nil)) (pa_cons (pe_lst (pa_cons pe_str pa_nil)) pa_nil)))))))))))) pss_nil)
  (pss_cons (ps_if (pt_cmpR op_eq (pv 0) pe_int (nomark _)) (pss_one (ps_ret (pe_lst (pa_cons pe_int (pa_cons (pe_un un_neg pe_int) (pa_cons pe_bl (pa_cons pe_bl (pa_cons pe_non (pa_cons pe_str pa_nil))))))))) pss_nil)
  (pss_cons (ps_if (pt_cmpR op_eq (pv 0) pe_int (nomark _)) (pss_one (ps_ret (pe_lst (pa_cons (pe_op op_sub (pe_ix (r := rIxT K) ix_tup (pv 1) pe_int (fun _ _ => rfl)) pe_int) (pa_cons pe_int (pa_cons (pe_un un_neg pe_int) (pa_cons pe_bl (pa_cons pe_bl (pa_cons pe_str (pa_cons (pe_op op_pow pe_int pe_int) pa_nil)))))))))) pss_nil)
  (pss_one (ps_ret (pe_lst (pa_cons pe_int (pa_cons (pe_un un_neg pe_int) (pa_cons pe_bl (pa_cons pe_bl (pa_cons pe_str (pa_cons (pe_tup (pa_cons pe_int pa_nil)) pa_nil)))))))))))))), ?_⟩
  obtain ⟨t, xs, rfl, sq, al⟩ := tup_at hx
  obtain ⟨x0, x1, x2, x3, x4, x5, x6, x7, rfl, v0, v1, v2, v3, v4, v5, v6, v7⟩ := all8v al
  cases v5
  walk_at "r"
  refine Jv.r_decI (fun h0 => ?_) (fun h0 => ?_)
  · obtain rfl : k = 0 := by omega
    walk_at "r"
    intro g hg
    refine q g _ [.int 7, .int (-1), .bool true, .none, .str (Str.ofString "0"), .int (10 ^ Int.toNat 9)] _ (Jv.same_new hg) hg upd_same (.cons (.int _) (.cons (.int _) (.cons (.bl _) (.cons .non (.cons (.str _) (.cons (.int _) .nil)))))) (fun e m => ?_) ⟨by simp, by simp⟩
    have h := all_of (f := fun e => !Jv.wholeD e (.int 0) (.int 6)) (es := [.int 7, .int (-1), .bool true, .none, .str (Str.ofString "0"), .int (10 ^ Int.toNat 9)]) (by decide +kernel) e m
    exact (Bool.not_eq_true' _).mp h
  walk_at "r"
  refine Jv.r_decI (fun h1 => ?_) (fun h1 => ?_)
  · obtain rfl : k = 1 := by omega
    walk_at "r"
    have S : Same H H := Same.refl _
    have A : Jv.DvAll K (Jv.hide N H) [] [] := .nil
    intro g1 hg1
    obtain ⟨A, hN, S⟩ := grow (us := [V.str (Str.ofString "abcdefgh"), V.int 0]) (es := [.str (Str.ofString "abcdefgh"), .int 0]) A hN S hg1 (.cons (.str _) (.cons (.int _) .nil))
    generalize upd H g1 (.tup [V.str (Str.ofString "abcdefgh"), V.int 0]) = H1 at A hN S ⊢
    walk_at "r"
    intro g2 hg2
    obtain ⟨A, hN, S⟩ := grow (us := [V.str (Str.ofString "abcdefgh"), V.int 3, V.int 2]) (es := [.str (Str.ofString "abcdefgh"), .int 3, .int 2]) A hN S hg2 (.cons (.str _) (.cons (.int _) (.cons (.int _) .nil)))
    generalize upd H1 g2 (.tup [V.str (Str.ofString "abcdefgh"), V.int 3, V.int 2]) = H2 at A hN S ⊢
    walk_at "r"
    intro g3 hg3
    obtain ⟨A, hN, S⟩ := grow (us := [V.str (Str.ofString "A"), V.int 0, V.int 1]) (es := [.str (Str.ofString "A"), .int 0, .int 1]) A hN S hg3 (.cons (.str _) (.cons (.int _) (.cons (.int _) .nil)))
    generalize upd H2 g3 (.tup [V.str (Str.ofString "A"), V.int 0, V.int 1]) = H3 at A hN S ⊢
    walk_at "r"
    intro g4 hg4
    obtain ⟨A, hN, S⟩ := grow (us := [V.str (Str.ofString ""), V.int 0, V.int 1]) (es := [.str (Str.ofString ""), .int 0, .int 1]) A hN S hg4 (.cons (.str _) (.cons (.int _) (.cons (.int _) .nil)))
    generalize upd H3 g4 (.tup [V.str (Str.ofString ""), V.int 0, V.int 1]) = H4 at A hN S ⊢
    walk_at "r"
    intro g5 hg5
    obtain ⟨A, hN, S⟩ := grow (us := [V.str (Str.ofString "abcdefgh"), V.int 0, V.int 41]) (es := [.str (Str.ofString "abcdefgh"), .int 0, .int 41]) A hN S hg5 (.cons (.str _) (.cons (.int _) (.cons (.int _) .nil)))
    generalize upd H4 g5 (.tup [V.str (Str.ofString "abcdefgh"), V.int 0, V.int 41]) = H5 at A hN S ⊢
    walk_at "r"
    intro g6 hg6
    obtain ⟨A, hN, S⟩ := grow (us := [V.str (Str.ofString "abcdefgh"), V.int (-1), V.int 1]) (es := [.str (Str.ofString "abcdefgh"), .int (-1), .int 1]) A hN S hg6 (.cons (.str _) (.cons (.int _) (.cons (.int _) .nil)))
    generalize upd H5 g6 (.tup [V.str (Str.ofString "abcdefgh"), V.int (-1), V.int 1]) = H6 at A hN S ⊢
    walk_at "r"
    intro g7 hg7
    obtain ⟨A, hN, S⟩ := grow (us := [V.str (Str.ofString "abcdefgh"), V.bl true, V.int 1]) (es := [.str (Str.ofString "abcdefgh"), .bool true, .int 1]) A hN S hg7 (.cons (.str _) (.cons (.bl _) (.cons (.int _) .nil)))
    generalize upd H6 g7 (.tup [V.str (Str.ofString "abcdefgh"), V.bl true, V.int 1]) = H7 at A hN S ⊢
    walk_at "r"
    intro g8 hg8
    obtain ⟨A, hN, S⟩ := grow (us := [V.str (Str.ofString "abcdefgh"), V.int 0, V.bl false]) (es := [.str (Str.ofString "abcdefgh"), .int 0, .bool false]) A hN S hg8 (.cons (.str _) (.cons (.int _) (.cons (.bl _) .nil)))
    generalize upd H7 g8 (.tup [V.str (Str.ofString "abcdefgh"), V.int 0, V.bl false]) = H8 at A hN S ⊢
    walk_at "r"
    intro l1 hl1
    have s9 := Jv.same_new (u := .lst [.ref g1, .ref g2, .ref g3, .ref g4, .ref g5, .ref g6, .ref g7, .ref g8]) hl1
    have e1 : upd H8 l1 (.lst [.ref g1, .ref g2, .ref g3, .ref g4, .ref g5, .ref g6, .ref g7, .ref g8]) l1 = some (.lst [.ref g1, .ref g2, .ref g3, .ref g4, .ref g5, .ref g6, .ref g7, .ref g8]) := upd_same
    replace A := A.same (Jv.hide_same (N := N) s9)
    replace hN := hN.same s9
    replace S := S.trans s9
    generalize upd H8 l1 (.lst [.ref g1, .ref g2, .ref g3, .ref g4, .ref g5, .ref g6, .ref g7, .ref g8]) = K1 at A hN S e1 ⊢
    clear s9
    walk_at "r"
    refine ⟨_, _, rfl, rfl, by decide +kernel, ?_⟩
    walk_at "r"
    have S1 : Same K1 K1 := Same.refl _
    intro g9 hg9
    obtain ⟨A, hN, S⟩ := grow (us := [V.str (Str.ofString "abcdefgh" ++ Str.ofString "i"), V.int 0, V.int 1]) (es := [.str (Str.ofString "abcdefgh" ++ Str.ofString "i"), .int 0, .int 1]) A hN S hg9 (.cons (.str _) (.cons (.int _) (.cons (.int _) .nil)))
    replace S1 := S1.trans (Jv.same_new (u := .tup [V.str (Str.ofString "abcdefgh" ++ Str.ofString "i"), V.int 0, V.int 1]) hg9)
    generalize upd K1 g9 (.tup [V.str (Str.ofString "abcdefgh" ++ Str.ofString "i"), V.int 0, V.int 1]) = H9 at A hN S S1 ⊢
    walk_at "r"
    intro g10 hg10
    obtain ⟨A, hN, S⟩ := grow (us := [V.non, V.int 0, V.int 1]) (es := [.none, .int 0, .int 1]) A hN S hg10 (.cons .non (.cons (.int _) (.cons (.int _) .nil)))
    replace S1 := S1.trans (Jv.same_new (u := .tup [V.non, V.int 0, V.int 1]) hg10)
    generalize upd H9 g10 (.tup [V.non, V.int 0, V.int 1]) = H10 at A hN S S1 ⊢
    walk_at "r"
    intro g11 hg11
    obtain ⟨A, hN, S⟩ := grow (us := [V.str (Str.ofString "abcdefgh"), V.int 0, V.int 1, V.int 2]) (es := [.str (Str.ofString "abcdefgh"), .int 0, .int 1, .int 2]) A hN S hg11 (.cons (.str _) (.cons (.int _) (.cons (.int _) (.cons (.int _) .nil))))
    replace S1 := S1.trans (Jv.same_new (u := .tup [V.str (Str.ofString "abcdefgh"), V.int 0, V.int 1, V.int 2]) hg11)
    generalize upd H10 g11 (.tup [V.str (Str.ofString "abcdefgh"), V.int 0, V.int 1, V.int 2]) = H11 at A hN S S1 ⊢
    walk_at "r"
    intro l2 hl2
    have s12 := Jv.same_new (u := .lst [.ref g9, .ref g10, .ref g11, V.str (Str.ofString "abc"), V.non, V.int 5]) hl2
    have e2 : upd H11 l2 (.lst [.ref g9, .ref g10, .ref g11, V.str (Str.ofString "abc"), V.non, V.int 5]) l2 = some (.lst [.ref g9, .ref g10, .ref g11, V.str (Str.ofString "abc"), V.non, V.int 5]) := upd_same
    replace A := A.same (Jv.hide_same (N := N) s12)
    replace hN := hN.same s12
    replace S := S.trans s12
    replace e1 := s12 _ _ (S1 _ _ e1)
    generalize upd H11 l2 (.lst [.ref g9, .ref g10, .ref g11, V.str (Str.ofString "abc"), V.non, V.int 5]) = K2 at A hN S e1 e2 ⊢
    clear s12
    walk_at "r"
    refine ⟨l1, l2, _, _, rfl, rfl, e1, e2, (show 8 + 6 ≤ sizeLine by decide +kernel), fun l3 hl3 => ?_⟩
    have s13 := Jv.same_new (u := .lst ([.ref g1, .ref g2, .ref g3, .ref g4, .ref g5, .ref g6, .ref g7, .ref g8] ++ [.ref g9, .ref g10, .ref g11, V.str (Str.ofString "abc"), V.non, V.int 5])) hl3
    have e3 : upd K2 l3 (.lst ([.ref g1, .ref g2, .ref g3, .ref g4, .ref g5, .ref g6, .ref g7, .ref g8] ++ [.ref g9, .ref g10, .ref g11, V.str (Str.ofString "abc"), V.non, V.int 5])) l3 = some (.lst [.ref g1, .ref g2, .ref g3, .ref g4, .ref g5, .ref g6, .ref g7, .ref g8, .ref g9, .ref g10, .ref g11, V.str (Str.ofString "abc"), V.non, V.int 5]) := upd_same
    have B : Jv.DvAll K (Jv.hide N (upd K2 l3 (.lst ([.ref g1, .ref g2, .ref g3, .ref g4, .ref g5, .ref g6, .ref g7, .ref g8] ++ [.ref g9, .ref g10, .ref g11, V.str (Str.ofString "abc"), V.non, V.int 5])))) [.ref g1, .ref g2, .ref g3, .ref g4, .ref g5, .ref g6, .ref g7, .ref g8, .ref g9, .ref g10, .ref g11, V.str (Str.ofString "abc"), V.non, V.int 5] oddW := Jv.DvAll.app (A.same (Jv.hide_same (N := N) s13)) (.cons (.str _) (.cons .non (.cons (.int _) .nil)))
    replace hN := hN.same s13
    replace S := S.trans s13
    clear A
    generalize upd K2 l3 (.lst ([.ref g1, .ref g2, .ref g3, .ref g4, .ref g5, .ref g6, .ref g7, .ref g8] ++ [.ref g9, .ref g10, .ref g11, V.str (Str.ofString "abc"), V.non, V.int 5])) = K3 at B hN S e3 ⊢
    clear s13
    walk_at "r"
    refine Jv.lcSL (K := K) (i := 3) (j := 4) (xs := [.ref g1, .ref g2, .ref g3, .ref g4, .ref g5, .ref g6, .ref g7, .ref g8, .ref g9, .ref g10, .ref g11, V.str (Str.ofString "abc"), V.non, V.int 5]) (N := N) rfl (Jv.sqL_at e3) hN (oddW.map fun d => .list [d]) rfl (show 14 ≤ 1000 by decide) (fun i v e D H1 hi hv he s1 hD1 nD PP hP => ?_) (fun D1 ys1 G1 s1 nD1 eD1 dva _ => ?_)
    · obtain ⟨dv', hdv, dvv⟩ := B.at hv
      rw [List.getElem?_map, hdv] at he
      cases he
      walk_at "r"
      intro g hg
      exact hP _ _ (Jv.same_new hg) (Jv.dv_newL hg hD1 (.cons (dvv.same (Jv.hide_more s1 nD)) .nil))
    replace B := B.same (Jv.hide_same (N := N) s1)
    replace hN := hN.same s1
    replace S := S.trans s1
    replace e3 := s1 _ _ e3
    clear s1 nD1
    walk_at "r"
    refine Jv.lcSL (K := K) (i := 3) (j := 4) (xs := [.ref g1, .ref g2, .ref g3, .ref g4, .ref g5, .ref g6, .ref g7, .ref g8, .ref g9, .ref g10, .ref g11, V.str (Str.ofString "abc"), V.non, V.int 5]) (N := N) rfl (Jv.sqL_at e3) hN (oddW.map fun d => .list [.tuple [.str (Str.ofString "abcdefgh"), .int 0, .int 40], d]) rfl (show 14 ≤ 1000 by decide) (fun i v e D H1 hi hv he s1 hD1 nD PP hP => ?_) (fun D2 ys2 G2 s2 nD2 eD2 dvb _ => ?_)
    · obtain ⟨dv', hdv, dvv⟩ := B.at hv
      rw [List.getElem?_map, hdv] at he
      cases he
      walk_at "r"
      intro gt hgt
      walk_at "r"
      intro g hg
      have st := Jv.same_new (u := .tup [V.str (Str.ofString "abcdefgh"), V.int 0, V.int 40]) hgt
      exact hP _ _ (st.trans (Jv.same_new hg)) (Jv.dv_newL hg (hD1.same st) (.cons (Jv.dv_new hgt hD1 (.cons (.str _) (.cons (.int _) (.cons (.int _) .nil)))) (.cons (((dvv.same (Jv.hide_more s1 nD))).same (Jv.hide_same st)) .nil)))
    have la : ys1.length = 14 := dva.len
    have lb : ys2.length = 14 := dvb.len
    replace eD1 := s2 _ _ eD1
    have dvab := Jv.DvAll.app (dva.same (Jv.hide_same (N := N) s2)) dvb
    replace hN := hN.same s2
    replace S := S.trans s2
    clear s2 nD2 B e3 dva dvb
    walk_at "r"
    refine ⟨D1, D2, _, _, rfl, rfl, eD1, eD2, by rw [la, lb]; exact (show 14 + 14 ≤ sizeLine by decide +kernel), fun l4 hl4 => ?_⟩
    have s4 := Jv.same_new (u := .lst (ys1 ++ ys2)) hl4
    have e4 : upd G2 l4 (.lst (ys1 ++ ys2)) l4 = some (.lst (ys1 ++ ys2)) := upd_same
    replace dvab := dvab.same (Jv.hide_same (N := N) s4)
    replace hN := hN.same s4
    replace S := S.trans s4
    clear eD1 eD2
    generalize upd G2 l4 (.lst (ys1 ++ ys2)) = K4 at e4 dvab hN S ⊢
    clear s4
    walk_at "r"
    intro gt hgt
    have st := Jv.same_new (u := .tup [V.str (Str.ofString "abcdefgh"), V.int 0, V.int 0]) hgt
    have dt := Jv.dv_new (K := K) hgt hN (.cons (.str (Str.ofString "abcdefgh")) (.cons (.int 0) (.cons (.int 0) .nil)))
    replace dvab := dvab.same (Jv.hide_same (N := N) st)
    replace hN := hN.same st
    replace S := S.trans st
    replace e4 := st _ _ e4
    generalize upd K4 gt (.tup [V.str (Str.ofString "abcdefgh"), V.int 0, V.int 0]) = K5 at e4 dvab hN S dt ⊢
    clear st
    walk_at "r"
    intro l5 hl5
    have s5 := Jv.same_new (u := .lst [.ref gt]) hl5
    have e5 : upd K5 l5 (.lst [.ref gt]) l5 = some (.lst [.ref gt]) := upd_same
    replace dvab := dvab.same (Jv.hide_same (N := N) s5)
    replace dt := dt.same (Jv.hide_same (N := N) s5)
    replace hN := hN.same s5
    replace S := S.trans s5
    replace e4 := s5 _ _ e4
    generalize upd K5 l5 (.lst [.ref gt]) = K6 at e4 e5 dvab hN S dt ⊢
    clear s5
    walk_at "r"
    refine ⟨l5, 5, _, rfl, rfl, e5, by decide, by decide, (show 1 * 5 ≤ sizeLine by decide +kernel), fun l6 hl6 => ?_⟩
    have s6 := Jv.same_new (u := .lst (List.replicate (Int.toNat 5) [V.ref gt]).flatten) hl6
    have d6' := Jv.dv_newL (K := K) (xs := (List.replicate (Int.toNat 5) [V.ref gt]).flatten) hl6 hN (.cons dt (.cons dt (.cons dt (.cons dt (.cons dt .nil)))))
    replace dvab := dvab.same (Jv.hide_same (N := N) s6)
    replace hN := hN.same s6
    replace S := S.trans s6
    replace e4 := s6 _ _ e4
    generalize upd K6 l6 (.lst (List.replicate (Int.toNat 5) [V.ref gt]).flatten) = K7 at e4 dvab hN S d6' ⊢
    clear s6
    walk_at "r"
    intro l7 hl7
    have s7 := Jv.same_new (u := .lst [V.non, V.int 5, V.str (Str.ofString ""), .ref l6]) hl7
    have e7 : upd K7 l7 (.lst [V.non, V.int 5, V.str (Str.ofString ""), .ref l6]) l7 = some (.lst [V.non, V.int 5, V.str (Str.ofString ""), .ref l6]) := upd_same
    replace dvab := dvab.same (Jv.hide_same (N := N) s7)
    replace d6' := d6'.same (Jv.hide_same (N := N) s7)
    replace hN := hN.same s7
    replace S := S.trans s7
    replace e4 := s7 _ _ e4
    generalize upd K7 l7 (.lst [V.non, V.int 5, V.str (Str.ofString ""), .ref l6]) = K8 at e4 e7 dvab hN S d6' ⊢
    clear s7
    walk_at "r"
    refine ⟨l4, l7, _, _, rfl, rfl, e4, e7, by rw [List.length_append, la, lb]; exact (show 14 + 14 + 4 ≤ sizeLine by decide +kernel), fun l8 hl8 => ?_⟩
    walk_at "r"
    have s8 := Jv.same_new (u := .lst ((ys1 ++ ys2) ++ [V.non, V.int 5, V.str (Str.ofString ""), .ref l6])) hl8
    refine q l8 _ oddE _ (S.trans s8) (none_back S hl8) upd_same (Jv.DvAll.app (dvab.same (Jv.hide_same (N := N) s8)) (.cons .non (.cons (.int _) (.cons (.str _) (.cons (d6'.same (Jv.hide_same (N := N) s8)) .nil))))) (fun e m => ?_) (by rw [List.length_append, List.length_append, la, lb]; exact ⟨(show 0 < 14 + 14 + 4 by decide), (show 14 + 14 + 4 ≤ 1000 by decide)⟩)
    have h := all_of (f := fun e => !testsD e && fewTsB e) (es := oddE) (by decide +kernel) e m
    have h := (Bool.and_eq_true _ _).mp h
    exact ⟨(Bool.not_eq_true' _).mp h.1, fewTs_of h.2⟩
  walk_at "r"
  refine Jv.r_dec (fun h2 => ?_) (fun h2 => ?_)
  · walk_at "r"
    intro g1 hg1
    walk_at "r"
    intro g2 hg2
    walk_at "r"
    intro g hg
    have s1 := Jv.same_new (u := .tup [V.int 1]) hg1
    have s2 := Jv.same_new (u := .lst [V.str (Str.ofString "none")]) hg2
    have s3 := Jv.same_new (u := .lst [V.str (Str.ofString "None"), V.str (Str.ofString "any"), V.str (Str.ofString ""), V.int 7, V.int (-1), V.bl true, V.bl false, .ref g1, .ref g2]) hg
    have D1 := ((Jv.dv_new (K := K) hg1 hN (.cons (.int 1) .nil)).same (Jv.hide_same (N := N) s2)).same (Jv.hide_same (N := N) s3)
    have D2 := (Jv.dv_newL (K := K) hg2 (hN.same s1) (.cons (.str (Str.ofString "none")) .nil)).same (Jv.hide_same (N := N) s3)
    refine q g _ [.str (Str.ofString "None"), .str (Str.ofString "any"), .str (Str.ofString ""), .int 7, .int (-1), .bool true, .bool false, .tuple [.int 1], .list [.str (Str.ofString "none")]] _ ((s1.trans s2).trans s3) ?_ upd_same (.cons (.str _) (.cons (.str _) (.cons (.str _) (.cons (.int _) (.cons (.int _) (.cons (.bl _) (.cons (.bl _) (.cons D1 (.cons D2 .nil))))))))) (fun e m => ?_) ⟨by simp, by simp⟩
    · cases e : H g with
      | none => rfl
      | some o => rw [(s1.trans s2) _ _ e] at hg; cases hg
    · have h := all_of (f := fun e => !condD e && SeqAt.shaped e) (es := [.str (Str.ofString "None"), .str (Str.ofString "any"), .str (Str.ofString ""), .int 7, .int (-1), .bool true, .bool false, .tuple [.int 1], .list [.str (Str.ofString "none")]]) (by decide +kernel) e m
      have h := (Bool.and_eq_true _ _).mp h
      have h := And.intro ((Bool.not_eq_true' _).mp h.1) h.2
      obtain rfl | rfl | rfl : k = 2 ∨ k = 3 ∨ k = 4 := by omega
      · exact h
      · exact h
      · exact h
  walk_at "r"
  refine Jv.r_decI (fun h5 => ?_) (fun h5 => ?_)
  · obtain rfl : k = 5 := by omega
    walk_at "r"
    intro g hg
    refine q g _ [.int 7, .int (-1), .bool true, .bool false, .none, .str (Str.ofString "0")] _ (Jv.same_new hg) hg upd_same (.cons (.int _) (.cons (.int _) (.cons (.bl _) (.cons (.bl _) (.cons .non (.cons (.str _) .nil)))))) (fun e m => ?_) ⟨by simp, by simp⟩
    have h := all_of (f := fun e => !Jv.wholeD e (.int 0) (.int 6)) (es := [.int 7, .int (-1), .bool true, .bool false, .none, .str (Str.ofString "0")]) (by decide +kernel) e m
    exact (Bool.not_eq_true' _).mp h
  walk_at "r"
  refine Jv.r_decI (fun h6 => ?_) (fun h6 => ?_)
  · obtain rfl : k = 6 := by omega
    walk_at "r"
    intro g hg
    refine q g _ [.int (lo - 1), .int 7, .int (-1), .bool true, .bool false, .str (Str.ofString "none"), .int (10 ^ Int.toNat 9)] _ (Jv.same_new hg) hg upd_same (.cons (.int _) (.cons (.int _) (.cons (.int _) (.cons (.bl _) (.cons (.bl _) (.cons (.str _) (.cons (.int _) .nil))))))) (fun e m => ?_) ⟨by simp, by simp⟩
    have wo : ∀ i : Int, i < lo ∨ 6 < i → Bad lo 6 (.int i) := fun i hi => ⟨rfl, by
      show (decide (lo ≤ i) && decide (i ≤ 6)) = false
      rcases hi with h | h
      · rw [decide_eq_false (by omega), Bool.false_and]
      · rw [decide_eq_false (p := i ≤ 6) (by omega), Bool.and_false]⟩
    simp only [List.mem_cons, List.not_mem_nil, or_false] at m
    rcases m with rfl | rfl | rfl | rfl | rfl | rfl | rfl
    · exact wo _ (by omega)
    · exact wo _ (by omega)
    · exact wo _ (by omega)
    · exact ⟨rfl, rfl⟩
    · exact ⟨rfl, rfl⟩
    · exact ⟨rfl, rfl⟩
    · exact wo _ (.inr (by decide))
  obtain rfl : k = 7 := by omega
  walk_at "r"
  intro g1 hg1
  walk_at "r"
  intro g hg
  have s1 := Jv.same_new (u := .tup [V.int 0]) hg1
  have s3 := Jv.same_new (u := .lst [V.int 2, V.int (-1), V.bl true, V.bl false, V.str (Str.ofString "0"), .ref g1]) hg
  have D1 := (Jv.dv_new (K := K) hg1 hN (.cons (.int 0) .nil)).same (Jv.hide_same (N := N) s3)
  refine q g _ [.int 2, .int (-1), .bool true, .bool false, .str (Str.ofString "0"), .tuple [.int 0]] _ (s1.trans s3) ?_ upd_same (.cons (.int _) (.cons (.int _) (.cons (.bl _) (.cons (.bl _) (.cons (.str _) (.cons D1 .nil)))))) (fun e m => ?_) ⟨by simp, by simp⟩
  · cases e : H g with
    | none => rfl
    | some o => rw [s1 _ _ e] at hg; cases hg
  · have h := all_of (f := fun e => !noneD e && !Jv.wholeD e (.int 0) (.int 1)) (es := [.int 2, .int (-1), .bool true, .bool false, .str (Str.ofString "0"), .tuple [.int 0]]) (by decide +kernel) e m
    have h := (Bool.and_eq_true _ _).mp h
    exact ⟨(Bool.not_eq_true' _).mp h.1, (Bool.not_eq_true' _).mp h.2⟩
end
end K17

namespace K17
open PySem PySem.Spec PyProof.Rows L2
/-! ### refused -/
theorem hi_good {lo : Int} {d6 : PyData} (h : d6 = .none ∨ ∃ h : Int, d6 = .int h ∧ lo ≤ h ∧ h ≤ 6) : (!noneD d6 && !Jv.wholeD d6 (loV (.int lo)) (.int 6)) = false := by
  rcases h with rfl | ⟨h, rfl, a, b⟩
  · rfl
  · rw [show Jv.wholeD (.int h) (loV (.int lo)) (.int 6) = true from whole_in a b, Bool.not_true, Bool.and_false]
theorem refused_fault {ds : List PyData} {w : Int} {d1 d2 d3 d4 : PyData} {lo : Int} {d6 d7 e0 e1 e2 e3 e4 e5 e6 e7 : PyData} (gr : GR ds w d1 d2 d3 d4 lo d6 d7) (tok : TestsOk d1) {pl : List Nat} {m : Nat} (m8 : m < 8) (hm : m ∈ pl) (hmin : ∀ i ∈ pl, m ≤ i)
    (h1 : ∀ i, i ∉ pl → [e0, e1, e2, e3, e4, e5, e6, e7][i]? = [PyData.int w, d1, d2, d3, d4, .int lo, d6, d7][i]?) (h2 : ∀ i ∈ pl, ∃ e, [e0, e1, e2, e3, e4, e5, e6, e7][i]? = some e ∧ Bad lo i e) :
    (∃ z, labelL[m]? = some z ∧ faultR e0 e1 e2 e3 e4 e5 e6 e7 = some z) ∧ fewTs e1 ∧ SeqAt.shaped e2 = true ∧ SeqAt.shaped e3 = true ∧ SeqAt.shaped e4 = true := by
  have g : ∀ i, i < m → [e0, e1, e2, e3, e4, e5, e6, e7][i]? = [PyData.int w, d1, d2, d3, d4, .int lo, d6, d7][i]? := fun i hi => h1 i fun hm' => absurd (hmin i hm') (by omega)
  refine ⟨?_, ?_, ?_, ?_, ?_⟩
  · obtain ⟨b, hb, bad⟩ := h2 m hm
    have W0 : Jv.wholeD (.int w) (.int 0) (.int 6) = true := whole_in gr.w6.1 gr.w6.2
    have W5 : Jv.wholeD (.int lo) (.int 0) (.int 6) = true := whole_in gr.l6.1 gr.l6.2
    have G6 := hi_good gr.hi
    have T1 := tok.ok
    have C2 := gr.c2.ok
    have C3 := gr.c3.ok
    have C4 := gr.c4.ok
    have E0 : 0 < m → e0 = .int w := fun h => Option.some.inj (g 0 h)
    have E1 : 1 < m → e1 = d1 := fun h => Option.some.inj (g 1 h)
    have E2 : 2 < m → e2 = d2 := fun h => Option.some.inj (g 2 h)
    have E3 : 3 < m → e3 = d3 := fun h => Option.some.inj (g 3 h)
    have E4 : 4 < m → e4 = d4 := fun h => Option.some.inj (g 4 h)
    have E5 : 5 < m → e5 = .int lo := fun h => Option.some.inj (g 5 h)
    have E6 : 6 < m → e6 = d6 := fun h => Option.some.inj (g 6 h)
    obtain rfl | rfl | rfl | rfl | rfl | rfl | rfl | rfl : m = 0 ∨ m = 1 ∨ m = 2 ∨ m = 3 ∨ m = 4 ∨ m = 5 ∨ m = 6 ∨ m = 7 := by omega
    · cases hb
      refine ⟨_, rfl, ?_⟩
      unfold faultR faultW
      rw [show Jv.wholeD e0 (.int 0) (.int 6) = false from bad]; rfl
    · cases hb
      refine ⟨_, rfl, ?_⟩
      rw [E0 (by decide)]
      unfold faultR faultW
      rw [W0, show testsD e1 = false from bad.1]; rfl
    · cases hb
      refine ⟨_, rfl, ?_⟩
      rw [E0 (by decide), E1 (by decide)]
      unfold faultR faultW
      rw [W0, T1, show condD e2 = false from bad.1]; rfl
    · cases hb
      refine ⟨_, rfl, ?_⟩
      rw [E0 (by decide), E1 (by decide), E2 (by decide)]
      unfold faultR faultW
      rw [W0, T1, C2, show condD e3 = false from bad.1]; rfl
    · cases hb
      refine ⟨_, rfl, ?_⟩
      rw [E0 (by decide), E1 (by decide), E2 (by decide), E3 (by decide)]
      unfold faultR faultW
      rw [W0, T1, C2, C3, show condD e4 = false from bad.1]; rfl
    · cases hb
      refine ⟨_, rfl, ?_⟩
      rw [E0 (by decide), E1 (by decide), E2 (by decide), E3 (by decide), E4 (by decide)]
      unfold faultR faultW faultB
      rw [W0, T1, C2, C3, C4, show Jv.wholeD e5 (.int 0) (.int 6) = false from bad]; rfl
    · cases hb
      refine ⟨_, rfl, ?_⟩
      rw [E0 (by decide), E1 (by decide), E2 (by decide), E3 (by decide), E4 (by decide), E5 (by decide)]
      unfold faultR faultW faultB
      rw [W0, T1, C2, C3, C4, W5, show noneD e6 = false from bad.1, show Jv.wholeD e6 (loV (.int lo)) (.int 6) = false from bad.2]; rfl
    · cases hb
      refine ⟨_, rfl, ?_⟩
      rw [E0 (by decide), E1 (by decide), E2 (by decide), E3 (by decide), E4 (by decide), E5 (by decide), E6 (by decide)]
      unfold faultR faultW faultB
      rw [W0, T1, C2, C3, C4, W5, G6, show noneD e7 = false from bad.1, show Jv.wholeD e7 (.int 0) (.int 1) = false from bad.2]; rfl
  · by_cases i : 1 ∈ pl
    · obtain ⟨e, he, b⟩ := h2 1 i
      cases he; exact b.2
    · rw [show e1 = d1 from Option.some.inj (h1 1 i)]; exact tok.few
  · by_cases i : 2 ∈ pl
    · obtain ⟨e, he, b⟩ := h2 2 i
      cases he; exact b.2
    · rw [show e2 = d2 from Option.some.inj (h1 2 i)]; exact gr.c2.shaped
  · by_cases i : 3 ∈ pl
    · obtain ⟨e, he, b⟩ := h2 3 i
      cases he; exact b.2
    · rw [show e3 = d3 from Option.some.inj (h1 3 i)]; exact gr.c3.shaped
  · by_cases i : 4 ∈ pl
    · obtain ⟨e, he, b⟩ := h2 4 i
      cases he; exact b.2
    · rw [show e4 = d4 from Option.some.inj (h1 4 i)]; exact gr.c4.shaped
theorem len8 {α : Type} {es : List α} (h : es.length = 8) : ∃ a b c d e f g i, es = [a, b, c, d, e, f, g, i] := by
  match es, h with
  | [a, b, c, d, e, f, g, i], _ => exact ⟨a, b, c, d, e, f, g, i, rfl⟩
def sp_Lrefused (K : PySem.W.Frag) : Sp := fun vs H Q _ => ∃ p l x ds, vs = [.ref p, x] ∧ Jv.Hand H p l ∧ Jv.Dv K (Jv.hide [p] H) x (.tuple ds) ∧ RuleD ds ∧
  ∀ H', Jv.Kp p H H' → Jv.Hand H' p l → Q (.bl true) H'
section
variable {P : Program} {w : World} {K : PySem.W.Frag} {mg : Str → Option Value} {base : Heap}
theorem ok_Lrefused (T : Tx) (O : Ok K mg T) : FnOk P w K mg base CX0 8 T.f_Lrefused T.d_Lrefused ["_law_hand_here", "_law_rule_here"] (sp_Lrefused K) := by
  refine O.F_Lrefused.ok sc_Lrefused (fun vs H Q E h => by obtain ⟨_, _, _, _, rfl, _⟩ := h; rfl) (fun cdv A outer s H vs Q E hr h => ?_)
  obtain ⟨p, l, x, ds, rfl, hh, hx, hd, q⟩ := h
  refine ⟨_, (pss_cons (ps_for PassesOwn.never rfl (pi_range1 (by rfl) O.z_range (pa_cons pe_int pa_nil)) (pg_name (i := 2) sc_Lrefused.nd rfl (Or.inl rfl)) (pss_cons (ps_set (i := 3) sc_Lrefused.nd rfl (Or.inl rfl) (pe_call (ok_Ldraw T O) (hr.mono (by decide)) (by rfl) O.m_Ldraw O.F_Ldraw.kp O.b_Ldraw .nil pass0 (pa_cons (pv 0) (pa_cons pe_int pa_nil))))
  (pss_cons (ps_set (i := 4) sc_Lrefused.nd rfl (Or.inl rfl) (pe_call (ok_Ldraw T O) (hr.mono (by decide)) (by rfl) O.m_Ldraw O.F_Ldraw.kp O.b_Ldraw .nil pass0 (pa_cons (pv 0) (pa_cons pe_int pa_nil))))
  (pss_cons (ps_set (i := 5) sc_Lrefused.nd rfl (Or.inl rfl) (pe_callTy (r := Jv.rListOf K) call_list_of (by rfl) O.z_list (by decide +kernel) (pa_cons (pv 1) pa_nil)))
  (pss_cons (ps_for PassesOwn.never rfl (show PI _ _ _ (iList K _) from pi_list (pe_lst (pa_cons (pv 3) (pa_cons (pv 4) pa_nil)))) (pg_name (i := 6) sc_Lrefused.nd rfl (Or.inl rfl)) (pss_one (ps_asg (pe_call (ok_Lpick T O) (hr.mono (by decide)) (by rfl) O.m_Lpick O.F_Lpick.kp O.b_Lpick .nil pass0 (pa_cons (pv 0) (pa_cons (pe_call (ok_Lodd T O) (hr.mono (by decide)) (by rfl) O.m_Lodd O.F_Lodd.kp O.b_Lodd .nil pass0 (pa_cons (pv 6) (pa_cons (pv 1) pa_nil))) pa_nil))) (pg_sub (pv 5) (pv 6) set_list))))
  (pss_one (ps_if (pt_cmpR (r := rNeD K) (op_neD hr.units) (pe_call (ok_Ltries T O) (hr.mono (by decide)) (by rfl) O.m_Ltries O.F_Ltries.kp O.b_Ltries .nil pass0 (pa_cons (pv 5) pa_nil)) (pe_tup (pa_cons (pe_ix (r := rIxL K) ix_list (pe_call0 (ok_Llabels T O) (hr.mono (by decide)) (by rfl) O.m_Llabels O.F_Llabels.kp O.b_Llabels .nil pass0) (pe_callB (r := Jv.rMin2) (call_min2 rfl) (by rfl) O.z_min (by decide +kernel) (pa_cons (pv 3) (pa_cons (pv 4) pa_nil))) (fun _ _ => rfl)) (pa_cons pe_bl pa_nil))) (nomark _)) (pss_one (ps_ret pe_bl)) pss_nil)))))))
  (pss_one (ps_ret (pe_cmpR op_isN (pe_call (ok_Ltries T O) (hr.mono (by decide)) (by rfl) O.m_Ltries O.F_Ltries.kp O.b_Ltries .nil pass0 (pa_cons (pe_callTy (r := Jv.rListOf K) call_list_of (by rfl) O.z_list (by decide +kernel) (pa_cons (pv 1) pa_nil)) pa_nil)) pe_non (nomark _))))), ?_⟩
  obtain ⟨wd, d1, d2, d3, d4, lo, d6, d7, gr, tok⟩ := id hd
  have ge := gr.eq
  subst ge
  obtain ⟨t, xs, rfl, sq, al⟩ := tup_at hx
  have lx : xs.length = 8 := al.len
  walk_at "r"
  refine ⟨_, rfl, by omega, by omega, for_range (lo := 0) (n := 3) (fun j σ H' => ∃ y2 y3 y4 y5 y6, σ = [some (.ref p), some (.ref t), y2, y3, y4, y5, y6] ∧ Jv.Kp p H H' ∧ Jv.Hand H' p l) ⟨_, _, _, _, _, rfl, .same (Same.refl _), hh⟩ ?_ ?_⟩
  · rintro j σ H1 hj ⟨y2, y3, y4, y5, y6, rfl, kp1, hh1⟩
    walk_at "r"
    refine ⟨p, l, 8, rfl, hh1, ⟨by decide, Jv.log_small (by decide) (by decide)⟩, fun a H2 a0 a1 kp2 hh2 => ?_⟩
    walk_at "r"
    refine ⟨p, l, 8, rfl, hh2, ⟨by decide, Jv.log_small (by decide) (by decide)⟩, fun b H3 b0 b1 kp3 hh3 => ?_⟩
    obtain ⟨a, rfl⟩ := Int.eq_ofNat_of_zero_le a0
    obtain ⟨b, rfl⟩ := Int.eq_ofNat_of_zero_le b0
    have kp03 := kp1.trans (kp2.trans kp3)
    have S3 := Jv.Kp.hide kp03
    have sq3 := Jv.Same.sqT (Jv.hide_le (N := [p])) (Jv.Same.sqT S3 sq)
    clear kp1 kp2 kp3 hh1 hh2
    walk_at "r"
    refine ⟨t, xs, rfl, .inr sq3, fun g hg => ?_⟩
    have s4 := Jv.same_new (u := .lst xs) hg
    have ng := hh3.ne2 hg
    have eg : upd H3 g (.lst xs) g = some (.lst xs) := upd_same
    have al4 : Jv.DvAll K (Jv.hide [g, p] (upd H3 g (.lst xs))) xs [.int wd, d1, d2, d3, d4, .int lo, d6, d7] := (al.same S3).same (Jv.hide_more s4 hg)
    have hx4 : Jv.Dv K (Jv.hide [g, p] (upd H3 g (.lst xs))) (.ref t) (.tuple [.int wd, d1, d2, d3, d4, .int lo, d6, d7]) := (hx.same S3).same (Jv.hide_more s4 hg)
    have hh4 := hh3.same s4
    have kp4 := kp03.trans (Jv.Kp.same s4)
    generalize upd H3 g (.lst xs) = H4 at eg al4 hx4 hh4 kp4 ⊢
    clear s4
    walk_at "r"
    intro g2 hg2
    have s5 := Jv.same_new (u := .lst [V.int (a : Nat), V.int (b : Nat)]) hg2
    have e2 : upd H4 g2 (.lst [V.int (a : Nat), V.int (b : Nat)]) g2 = some (.lst [V.int (a : Nat), V.int (b : Nat)]) := upd_same
    have ng2 : g2 ≠ g := fun e => by rw [e, eg] at hg2; cases hg2
    have np2 := hh4.ne2 hg2
    have hgH : H g = none := Jv.Kp.free kp03 hh3 hg
    replace eg := s5 _ _ eg
    replace al4 := al4.same (Jv.hide_same (N := [g, p]) s5)
    replace hx4 := hx4.same (Jv.hide_same (N := [g, p]) s5)
    replace hh4 := hh4.same s5
    replace kp4 := kp4.trans (Jv.Kp.same s5)
    clear hg2
    generalize upd H4 g2 (.lst [V.int (a : Nat), V.int (b : Nat)]) = H5 at e2 eg al4 hx4 hh4 kp4 ⊢
    clear s5
    refine ⟨g2, rfl, ⟨_, Jv.sqL_at e2⟩, for_list (xs := [V.int (a : Nat), V.int (b : Nat)]) (fun n σ H' => ∃ y6 ys es, σ = [some (.ref p), some (.ref t), some (.int (0 + (j : Int))), some (.int (a : Nat)), some (.int (b : Nat)), some (.ref g), y6] ∧ Jv.Kp p H H' ∧ Jv.Hand H' p l ∧ H' g2 = some (.lst [V.int (a : Nat), V.int (b : Nat)]) ∧ H' g = some (.lst ys) ∧
      Jv.DvAll K (Jv.hide [g, p] H') ys es ∧ Jv.Dv K (Jv.hide [g, p] H') (.ref t) (.tuple [PyData.int wd, d1, d2, d3, d4, .int lo, d6, d7]) ∧ es.length = 8 ∧ (∀ i, i ∉ [a, b].take n → es[i]? = [PyData.int wd, d1, d2, d3, d4, .int lo, d6, d7][i]?) ∧ ∀ i ∈ [a, b].take n, ∃ e, es[i]? = some e ∧ Bad lo i e)
      ⟨_, _, _, rfl, kp4, hh4, e2, eg, al4, hx4, rfl, fun i _ => rfl, fun i m => by cases m⟩ (fun i σ H' _ h => by obtain ⟨_, _, _, _, _, _, e, _⟩ := h; exact Jv.sqL_at e) ?_ ?_⟩
    · rintro n v σ H6 hv ⟨y6, ys, es, rfl, kp6, hh6, e26, eg6, al6, hx6, l8, hn, hb⟩
      obtain ⟨c, hc, rfl, c8⟩ : ∃ c : Nat, [a, b][n]? = some c ∧ v = .int c ∧ c < 8 := by
        match n, hv with
        | 0, hv => cases hv; exact ⟨a, rfl, rfl, by omega⟩
        | 1, hv => cases hv; exact ⟨b, rfl, rfl, by omega⟩
        | n + 2, hv => cases hv
      have N6 : Jv.Held [g, p] H6 := Jv.Held.cons (fun b m => let ⟨ys, e⟩ := hh6.lst b m; ⟨_, e⟩) eg6
      have ly : ys.length = 8 := al6.len.trans l8
      walk_at "r"
      refine ⟨.ref t, wd, d1, d2, d3, d4, lo, d6, d7, [g, p], c, rfl, c8, N6, hx6.same Jv.hide_le, gr.l6, fun go xo eo H7 s7 no ego alo bado len => ?_⟩
      walk_at "r"
      refine ⟨p, l, go, xo, rfl, hh6.same s7, ego, (hh6.ne2 no).1, len, fun i u H8 hu kp8 hh8 => ?_⟩
      obtain ⟨e, he, dve⟩ := alo.at hu
      have bad := bado e (List.mem_of_getElem? he)
      have S8 := Jv.Kp.hideM (N := [g, p]) kp8 (by simp)
      have S68 := (Jv.hide_same (N := [g, p]) s7)
      have eg8 := kp8 _ _ ng.1 (s7 _ _ eg6)
      have e28 := kp8 _ _ np2.1 (s7 _ _ e26)
      walk_at "r"
      refine ⟨g, ys, _, c, rfl, rfl, eg8, ?_, ?_⟩
      · unfold ixN
        rw [if_pos (by omega), if_pos (by omega), Int.toNat_natCast]
      refine ⟨_, ys.set c u, es.set c e, rfl, ?_, hand_kpx hh8 (fun b o nb hb => by rw [upd_ne nb]; exact hb) ng, by rw [upd_ne ng2]; exact e28, upd_same, ?_, ?_, by rw [List.length_set]; exact l8, fun i hi => ?_, fun i hi => ?_⟩
      · exact fun b o nb hb => by
          rw [upd_ne (ne_of_none hb hgH)]; exact kp8 _ _ nb (s7 _ _ (kp6 b o nb hb))
      · rw [Jv.hide_upd]; exact Jv.DvAll.set (dve.same S8) c ((al6.same S68).same S8)
      · rw [Jv.hide_upd]; exact (hx6.same S68).same S8
      · rw [List.take_succ, hc, List.mem_append, not_or] at hi
        have ne : c ≠ i := fun z => hi.2 (by rw [z]; exact List.mem_singleton.mpr rfl)
        rw [List.getElem?_set_ne ne]; exact hn i hi.1
      · rw [List.take_succ, hc, List.mem_append] at hi
        by_cases z : c = i
        · subst z
          exact ⟨e, by rw [List.getElem?_set_self (by omega)], bad⟩
        · rcases hi with hi | hi
          · rw [List.getElem?_set_ne z]; exact hb i hi
          · exact absurd (List.mem_singleton.mp hi).symm z
    · rintro σ H6 ⟨y6, ys, es, rfl, kp6, hh6, e26, eg6, al6, hx6, l8, hn, hb⟩
      obtain ⟨f0, f1, f2, f3, f4, f5, f6, f7, rfl⟩ := len8 l8
      obtain ⟨z0, z1, z2, z3, z4, z5, z6, z7, rfl, _⟩ := all8v al6
      obtain ⟨⟨z, lz, fz⟩, k1, k2, k3, k4⟩ := refused_fault (m := min a b) (pl := [a, b]) gr tok (by omega) (by rcases Nat.le_total a b with h | h; (rw [Nat.min_eq_left h]; simp); (rw [Nat.min_eq_right h]; simp)) (fun i m => by
        simp only [List.mem_cons, List.not_mem_nil, or_false] at m
        omega) hn hb
      walk_at "r"
      refine ⟨g, z0, z1, z2, z3, z4, z5, z6, z7, _, _, _, _, _, _, _, _, rfl, eg6, al6.same Jv.hide_le, k1, k2, k3, k4, .inl ⟨z, fz, fun v H7 s7 dv => ?_⟩⟩
      walk_at "r"
      refine ⟨rfl, fun r H8 s8 er => ?_⟩
      walk_at "r"
      rw [show (if ((b : Nat) : Int) < (a : Nat) then ((b : Nat) : Int) else (a : Nat)) = ((min a b : Nat) : Int) by split <;> omega]
      refine Jv.r_ixL (v := .str z) (Jv.sqL_at er) (Jv.at_i (by omega) (by rw [Int.toNat_natCast, List.getElem?_map, lz]; rfl)) ?_
      walk_at "r"
      intro g9 hg9
      have s9 := Jv.same_new (u := .tup [V.str z, V.bl true]) hg9
      have zo := all_of (f := fun d => SeqAt.shaped d && d.canLay0) (es := labelL.map fun z => PyData.tuple [.str z, .bool true]) (by decide +kernel) _ (List.mem_map.mpr ⟨z, List.mem_of_getElem? lz, rfl⟩)
      have zo := (Bool.and_eq_true _ _).mp zo
      refine ⟨_, _, (dv.same (s8.trans s9)).dp, (Jv.Dv.tup (K := K) (Jv.sqT_at upd_same) (.cons (.str z) (.cons (.bl true) .nil))).dp, zo.1, zo.1, ?_⟩
      rw [SeqAt.eqv_refl _ zo.2]
      walk_at "r"
      exact ⟨_, _, _, _, _, rfl, kp6.trans (Jv.Kp.same ((s7.trans s8).trans s9)), ((hh6.same s7).same s8).same s9⟩
  · rintro σ H1 ⟨y2, y3, y4, y5, y6, rfl, kp1, hh1⟩
    have S1 := Jv.Kp.hide kp1
    have sq1 := Jv.Same.sqT (Jv.hide_le (N := [p])) (Jv.Same.sqT S1 sq)
    have al1 := (al.same S1).same (Jv.hide_le (N := [p]))
    walk_at "r"
    refine ⟨t, xs, rfl, .inr sq1, fun g hg => ?_⟩
    have s2 := Jv.same_new (u := .lst xs) hg
    obtain ⟨x0, x1, x2, x3, x4, x5, x6, x7, rfl, _⟩ := all8v al1
    walk_at "r"
    refine ⟨g, _, _, _, _, _, _, _, _, _, _, _, _, _, _, _, _, rfl, upd_same, al1.same s2, tok.few, gr.c2.shaped, gr.c3.shaped, gr.c4.shaped, .inr ⟨gr.ok, fun H3 s3 => ?_⟩⟩
    walk_at "r"
    exact q H3 (kp1.trans (Jv.Kp.same (s2.trans s3))) ((hh1.same s2).same s3)
end
end K17

namespace Jv
open PySem PySem.Spec PyProof.Rows L2
theorem sqT_hideD {K : PySem.W.Frag} {N : List Addr} {H : Hp} {a D : Addr} {xs ys : List V} (h : SqT K (hide N H) a xs) (e : H D = some (.lst ys)) : SqT K (hide (D :: N) H) a xs := by
  have up : ∀ o, hide N H a = some o → (∀ zs, o ≠ .lst zs) → hide (D :: N) H a = some o := fun o ho hn => by
    obtain ⟨n, e2⟩ := hide_some ho
    refine hide_at (fun m => ?_) e2
    rcases List.mem_cons.mp m with z | m
    · rw [z, e] at e2
      exact hn ys (Option.some.inj e2).symm
    · exact n m
  rcases h with (h | ⟨o, h⟩) | h
  · exact .inl (.inl (up _ h fun zs z => nomatch z))
  · exact .inl (.inr ⟨o, up _ h fun zs z => nomatch z⟩)
  · exact .inr h
theorem vals_getD : ∀ {zs : List V} {ws : List Value}, Vals zs ws → ∀ i, RelV (zs.getD i .non) (ws.getD i .none)
  | _, _, .nil, i => by rw [List.getD_nil, List.getD_nil]; exact rfl
  | _, _, .cons h _, 0 => h
  | _, _, .cons _ t, i + 1 => vals_getD t i
theorem lcKpL {K : PySem.W.Frag} {H : Hp} {p l : Addr} {σ : L2.St} {te : TE} {Q : VK} {i j : Nat} {a : Addr} {xs : List V} (hv : σ[i]? = some (some (.ref a))) (h : SqL K H a xs) (keep : ∀ H', Kp p H H' → SqL K H' a xs) (hh : Hand H p l) (few : xs.length ≤ 900) (S : Hp → Nat → V → Prop) (hS : ∀ H H' i v, Same H H' → S H i v → S H' i v)
    (hs : ∀ i v D Hx, i < xs.length → xs[i]? = some v → Kp p H Hx → Hand Hx p l → H D = none → D ≠ p → (∃ ys, Hx D = some (.lst ys)) → ∀ P : VK, (∀ y H2, Kp p Hx H2 → Hand H2 p l → S (hide [D, p] H2) i y → P y H2) → te ((σ.set j none).set j (some v)) Hx P)
    (hd : ∀ D ys H1, Kp p H H1 → Hand H1 p l → H D = none → D ≠ p → H1 D = some (.lst ys) → ys.length = xs.length → (∀ i y, ys[i]? = some y → S (hide [D, p] H1) i y) → Q (.ref D) H1) : tLc (iList K (tVar i)) (gName j) tYes te [j] σ H Q :=
  ⟨_, hv, a, rfl, ⟨xs, h⟩, lcKpW (walk_list (K := K) (a := a) (xs := xs)) (fun H' k _ => keep H' k) yat hh few S hS hs hd⟩
end Jv
namespace K17
open PySem PySem.Spec PyProof.Rows L2
/-! ### the law -/
mutual
theorem pl_hide {K : PySem.W.Frag} {N : List Addr} {H : Hp} {D : Addr} {ys : List V} (e : H D = some (.lst ys)) : ∀ (n : Nat) {v : V} {d : PyData}, Pl n d → Jv.Dv K (Jv.hide N H) v d → Jv.Dv K (Jv.hide (D :: N) H) v d
  | 0, _, _, p, h => h.flat p.1
  | n + 1, v, d, p, h => by
    rcases p with p | ⟨ds, rfl, _, p⟩
    · exact h.flat p.1
    · obtain ⟨t, xs, rfl, sq, al⟩ := tup_at h
      exact .tup (Jv.sqT_hideD sq e) (plAll_hide e n p al)
theorem plAll_hide {K : PySem.W.Frag} {N : List Addr} {H : Hp} {D : Addr} {ys : List V} (e : H D = some (.lst ys)) : ∀ (n : Nat) {vs : List V} {ds : List PyData}, (∀ d ∈ ds, Pl n d) → Jv.DvAll K (Jv.hide N H) vs ds → Jv.DvAll K (Jv.hide (D :: N) H) vs ds
  | _, _, _, _, .nil => .nil
  | n, _, _, p, .cons h t => .cons (pl_hide e n (p _ List.mem_cons_self) h) (plAll_hide e n (fun d m => p d (List.mem_cons_of_mem _ m)) t)
end
theorem RAt.hide {K : PySem.W.Frag} {N : List Addr} {H : Hp} {C a D : Addr} {ys : List V} {ds : List PyData} (h : RAt K (Jv.hide N H) C a ds) (rd : RuleD ds) (e : H D = some (.lst ys)) : RAt K (Jv.hide (D :: N) H) C a ds := by
  obtain ⟨dx, v0, v1, v2, v3, v4, v5, v6, v7, ea, al⟩ := h
  obtain ⟨n, e2⟩ := Jv.hide_some ea
  refine ⟨dx, v0, v1, v2, v3, v4, v5, v6, v7, Jv.hide_at (fun m => ?_) e2, plAll_hide e 2 (fun d m => ((rule_each rd).2 d m).2.2.2) al⟩
  rcases List.mem_cons.mp m with z | m
  · rw [z, e] at e2; cases e2
  · exact n m
def RmV (K : PySem.W.Frag) (C : Addr) (xs : List V) (H : Hp) (i : Nat) (v : V) : Prop := ∃ a y ds, v = .ref a ∧ xs[i]? = some y ∧ RuleD ds ∧ Jv.Dv K H y (.tuple ds) ∧ RAt K H C a ds
def RlV (K : PySem.W.Frag) (H : Hp) (_ : Nat) (v : V) : Prop := ∃ ds, RuleD ds ∧ Jv.Dv K H v (.tuple ds)
def sp_law (K : PySem.W.Frag) : Sp := fun vs H Q _ => ∃ (a : Addr) (ns : List Int), vs = [.ref a] ∧ SqL K H a (ns.map V.int) ∧ ns.length ≤ 63 ∧ ∀ H', Q (.bl true) H'
section
variable {P : Program} {w : World} {K : PySem.W.Frag} {mg : Str → Option Value} {base : Heap}
theorem ok_law (T : Tx) (O : Ok K mg T) : FnOk P w K mg base CX0 10 T.f_law T.d_law ["_law_script"] (sp_law K) := by
  refine O.F_law.ok sc_law (fun vs H Q E h => by obtain ⟨_, _, rfl, _⟩ := h; rfl) (fun cdv A outer s H vs Q E hr h => ?_)
  obtain ⟨a, ns, rfl, hs, hn, q⟩ := h
  refine ⟨_, (pss_cons (ps_set (i := 1) sc_law.nd rfl (Or.inr rfl) (pe_call (ok_Lhand T O) (hr.mono (by decide)) (by rfl) O.m_Lhand O.F_Lhand.kp O.b_Lhand .nil pass0 (pa_cons (pv 0) pa_nil)))
  (pss_cons (ps_set (i := 2) sc_law.nd rfl (Or.inr rfl) (pe_call (ok_Lnames T O) (hr.mono (by decide)) (by rfl) O.m_Lnames O.F_Lnames.kp O.b_Lnames .nil pass0 (pa_cons (pv 1) pa_nil)))
  (pss_cons (ps_set (i := 3) sc_law.nd rfl (Or.inr rfl) (pe_call (ok_Ldraw T O) (hr.mono (by decide)) (by rfl) O.m_Ldraw O.F_Ldraw.kp O.b_Ldraw .nil pass0 (pa_cons (pv 1) (pa_cons pe_int pa_nil))))
  (pss_cons (ps_setLc (i := 4) (own := [("_law_turn", 11)]) (by rfl) sc_law.nd rfl rfl (sw_true rfl rfl rfl (by decide +kernel)) (pi_range1 (by rfl) O.z_range (pa_cons pe_int pa_nil)) (blkOk_by (own := [("_law_turn", 11)]) (N := ["_law_script", "_law_hand_here", "_law_names_here", "_law_ladder", "_law_rules", "_law_rule_here", "_law_made_here", "_law_at", "_law_one", "_law_place", "_law_other_here", "_law_turn"]) (sc := defScope s_law) (scope := ({ kind := .function, names := [(".0", .local), ("_law_turn", .local), ("_law_rule", .globalImplicit), ("_law_draw", .globalImplicit), ("_law_hand_here", .free), ("_law_ladder", .free), ("_law_names_here", .free)], isGenerator := false, isCoroutine := false } : Scope)) (by decide +kernel)) (fun _ _ _ _ _ => (pg_name (i := 11) sc_law.nd rfl (Or.inl rfl))) (fun _ _ _ _ _ => pts_nil) (fun _ _ _ _ _ => (pe_call (ok_Lrule T O) (hr.mono (by decide)) (by rfl) O.m_Lrule O.F_Lrule.kp O.b_Lrule .nil pass0 (pa_cons (pv 1) (pa_cons (pv 2) (pa_cons (pv 3) (pa_cons (pe_cmpR op_eq (pe_call (ok_Ldraw T O) (hr.mono (by decide)) (by rfl) O.m_Ldraw O.F_Ldraw.kp O.b_Ldraw .nil pass0 (pa_cons (pv 1) (pa_cons pe_int pa_nil))) pe_int (nomark _)) pa_nil)))))))
  (pss_cons (ps_for PassesOwn.never rfl (show PI _ _ _ (iList K _) from pi_list (pv 4)) (pg_name (i := 5) sc_law.nd rfl (Or.inl rfl)) (pss_cons (ps_if (PW.pt (pw_or (pt_not (pt_val (pe_call (ok_Lequal T O) (hr.mono (by decide)) (by rfl) O.m_Lequal O.F_Lequal.kp O.b_Lequal .nil pass0 (pa_cons (pv 1) (pa_cons (pv 5) (pa_cons (pe_ix (r := rIxL K) ix_list (pv 2) pe_int (fun _ _ => rfl)) pa_nil)))))) (pw_or1 (pt_not (pt_val (pe_call (ok_Lleft_out T O) (hr.mono (by decide)) (by rfl) O.m_Lleft_out O.F_Lleft_out.kp O.b_Lleft_out .nil pass0 (pa_cons (pv 5) pa_nil))))))) (pss_one (ps_ret pe_bl)) pss_nil)
  (pss_one (ps_if (PW.pt (pw_or (pt_not (pt_val (pe_call (ok_Lrefused T O) (hr.mono (by decide)) (by rfl) O.m_Lrefused O.F_Lrefused.kp O.b_Lrefused .nil pass0 (pa_cons (pv 1) (pa_cons (pv 5) pa_nil))))) (pw_or1 (pt_not (pt_val (pe_call (ok_Lraises T O) (hr.mono (by decide)) (by rfl) O.m_Lraises O.F_Lraises.kp O.b_Lraises .nil pass0 (pa_cons (pv 1) (pa_cons (pv 5) pa_nil)))))))) (pss_one (ps_ret pe_bl)) pss_nil))))
  (pss_cons (ps_setLc (i := 6) (own := [("_law_rule_here", 5)]) (by rfl) sc_law.nd rfl rfl (sw_true rfl rfl rfl (by decide +kernel)) (show PI _ _ _ (iList K _) from pi_list (pv 4)) (blkOk_by (own := [("_law_rule_here", 5)]) (N := ["_law_script", "_law_hand_here", "_law_names_here", "_law_ladder", "_law_rules", "_law_rule_here", "_law_made_here", "_law_at", "_law_one", "_law_place", "_law_other_here", "_law_turn"]) (sc := defScope s_law) (scope := ({ kind := .function, names := [(".0", .local), ("_law_rule_here", .local), ("_law_made", .globalImplicit), ("_law_hand_here", .free)], isGenerator := false, isCoroutine := false } : Scope)) (by decide +kernel)) (fun _ _ _ _ _ => (pg_name (i := 5) sc_law.nd rfl (Or.inl rfl))) (fun _ _ _ _ _ => pts_nil) (fun _ _ _ _ _ => (pe_call (ok_Lmade T O) (hr.mono (by decide)) (by rfl) O.m_Lmade O.F_Lmade.kp O.b_Lmade .nil pass0 (pa_cons (pv 1) (pa_cons (pv 5) pa_nil)))))
  (pss_cons (ps_for PassesOwn.never rfl (show PI _ _ _ (iEnum K _) from pi_enum (by rfl) O.z_enumerate (pa_cons (pv 6) pa_nil)) (pg_tup rfl (pgs_cons (pg_name (i := 7) sc_law.nd rfl (Or.inl rfl)) (pgs_cons (pg_name (i := 8) sc_law.nd rfl (Or.inl rfl)) pgs_nil))) (pss_one (ps_for PassesOwn.never rfl (show PI _ _ _ (iEnum K _) from pi_enum (by rfl) O.z_enumerate (pa_cons (pv 6) pa_nil)) (pg_tup rfl (pgs_cons (pg_name (i := 9) sc_law.nd rfl (Or.inl rfl)) (pgs_cons (pg_name (i := 10) sc_law.nd rfl (Or.inl rfl)) pgs_nil))) (pss_one (ps_if (pt_cmpR op_ne (pe_cmpR (Jv.op_eqO (ok_Ruleu_equ T O) O.h_Ruleu_equ O.i_Rule_nt (hr.mono (by decide)) O.b_Ruleu_equ pass0) (pv 8) (pv 10) (nomark _)) (pe_cmpR (r := rEqD K) (op_eqD hr.units) (pe_ix (r := rIxL K) ix_list (pv 4) (pv 7) (fun _ _ => rfl)) (pe_ix (r := rIxL K) ix_list (pv 4) (pv 9) (fun _ _ => rfl)) (nomark _)) (nomark _)) (pss_one (ps_ret pe_bl)) pss_nil)))))
  (pss_one (ps_ret pe_bl))))))))), ?_⟩
  walk_at "r"
  refine ⟨a, ns, rfl, hs, hn, fun p l H1 s1 hp hh1 => ?_⟩
  walk_at "r"
  refine ⟨p, l, rfl, hh1, fun r ss H2 kp2 hh2 nr er nm => ?_⟩
  walk_at "r"
  refine ⟨p, l, 7, rfl, hh2, ⟨by decide, Jv.log_small (by decide) (by decide)⟩, fun L H3 L0 L1 kp3 hh3 => ?_⟩
  replace er := kp3 _ _ nr er
  clear hh1 kp2 hh2 kp3 s1
  walk_at "r"
  refine Jv.lcKpR (k := 3) (j := 11) (p := p) (l := l) (by decide) (by decide) hh3 (RlV K) (fun H H' i v s h => by obtain ⟨ds, rd, dv⟩ := h; exact ⟨ds, rd, dv.same s⟩) (fun i v D Hx hi kp hh nD nDp eD PP hP => ?_) (fun D ys H4 kp4 hh4 nD nDp eD ly al => ?_)
  · walk_at "r"
    refine ⟨p, l, 2, rfl, hh, ⟨by decide, Jv.log_small (by decide) (by decide)⟩, fun c H5 c0 c1 kp5 hh5 => ?_⟩
    walk_at "r"
    refine ⟨p, l, r, ss, L, _, rfl, hh5, nr, (kp.trans kp5) _ _ nr er, nm, ⟨L0, by omega⟩, fun v ds H6 kp6 hh6 rd dv => ?_⟩
    obtain ⟨ys, eD⟩ := eD
    exact hP _ _ (kp5.trans kp6) hh6 ⟨ds, rd, pl_hide (kp6 _ _ nDp (kp5 _ _ nDp eD)) 3 (rule_pl rd) dv⟩
  replace er := kp4 _ _ nr er
  clear kp4 hh3
  have rule_at : ∀ H', Jv.Kp p H4 H' → ∀ i y, ys[i]? = some y → ∃ ds, RuleD ds ∧ Jv.Dv K (Jv.hide [D, p] H') y (.tuple ds) := fun H' k i y h => by
    obtain ⟨ds, rd, dv⟩ := al i y h
    exact ⟨ds, rd, dv.same (Jv.Kp.hideM k (by simp))⟩
  have less : ∀ {H' : Hp} {y : V} {d : PyData}, Jv.Dv K (Jv.hide [D, p] H') y d → Jv.Dv K (Jv.hide [p] H') y d := fun h => h.same Jv.hide_less
  walk_at "r"
  refine ⟨D, rfl, ⟨_, Jv.sqL_at eD⟩, for_list (xs := ys) (fun j σ H' => ∃ y5, σ = [some (.ref a), some (.ref p), some (.ref r), some (.int L), some (.ref D), y5, none, none, none, none, none, none] ∧ Jv.Kp p H4 H' ∧ Jv.Hand H' p l) ⟨_, rfl, .same (Same.refl _), hh4⟩ (fun i σ H' _ ⟨_, _, k, _⟩ => Jv.sqL_at (k _ _ nDp eD)) ?_ ?_⟩
  · rintro j v σ H5 hv ⟨y5, rfl, kp5, hh5⟩
    obtain ⟨ds, rd, dv⟩ := rule_at H5 kp5 j v hv
    obtain ⟨z, zs, rfl⟩ : ∃ z zs, ss = z :: zs := by
      cases ss with
      | nil => exact absurd rfl nm.n0
      | cons z zs => exact ⟨z, zs, rfl⟩
    have er5 := kp5 _ _ nr er
    walk_at "r"
    refine Jv.r_ixL (v := .str z) (Jv.sqL_at er5) (Jv.at_i (by decide) rfl) ?_
    walk_at "r"
    refine ⟨p, l, v, ds, z, rfl, hh5, less dv, rd, (nm.ok z List.mem_cons_self).1, fun H6 kp6 hh6 => ?_⟩
    have dv6 := dv.same (Jv.Kp.hideM (N := [D, p]) kp6 (by simp))
    walk_at "r"
    refine ⟨v, ds, rfl, dv6.same Jv.hide_le, rd, fun H7 s7 => ?_⟩
    have dv7 := dv6.same (Jv.hide_same s7)
    have hh7 := hh6.same s7
    walk_at "r"
    refine ⟨p, l, v, ds, rfl, hh7, less dv7, rd, fun H8 kp8 hh8 => ?_⟩
    have dv8 := dv7.same (Jv.Kp.hideM (N := [D, p]) kp8 (by simp))
    walk_at "r"
    refine ⟨p, l, v, ds, rfl, hh8, less dv8, rd, fun H9 kp9 hh9 => ?_⟩
    walk_at "r"
    exact ⟨_, rfl, (((kp5.trans kp6).trans (Jv.Kp.same s7)).trans kp8).trans kp9, hh9⟩
  rintro σ H5 ⟨y5, rfl, kp5, hh5⟩
  have eD5 := kp5 _ _ nDp eD
  walk_at "r"
  refine Jv.lcKpL (K := K) (i := 4) (j := 5) (a := D) (xs := ys) rfl (Jv.sqL_at eD5) (fun H' k => Jv.sqL_at (k _ _ nDp eD5)) hh5 (by rw [ly]; decide) (RmV K T.C_Rule ys) (fun H H' i v s h => by
    obtain ⟨a, y, ds, rfl, hy, rd, dv, ra⟩ := h
    exact ⟨a, y, ds, rfl, hy, rd, dv.same s, ra.same s⟩) (fun i v D2 Hx hi hv kp hh nD2 nD2p eD2 PP hP => ?_) (fun D2 ys2 H6 kp6 hh6 nD2 nD2p eD2 ly2 al2 => ?_)
  · obtain ⟨ds, rd, dv⟩ := rule_at Hx (kp5.trans kp) i v hv
    obtain ⟨zs, eD2⟩ := eD2
    walk_at "r"
    refine ⟨p, l, v, ds, rfl, hh, less dv, rd, fun r1 H6 kp6 hh6 n6 ra => ?_⟩
    have e6 := kp6 _ _ nD2p eD2
    exact hP _ _ kp6 hh6 ⟨r1, v, ds, rfl, hv, rd, pl_hide e6 3 (rule_pl rd) (less (dv.same (Jv.Kp.hideM (N := [D, p]) kp6 (by simp)))), ra.hide rd e6⟩
  have eD6 := kp6 _ _ nDp eD5
  have made_at : ∀ H', Same H6 H' → ∀ i v, ys2[i]? = some v → RmV K T.C_Rule ys H' i v := fun H' s i v h => by
    obtain ⟨a, y, ds, rfl, hy, rd, dv, ra⟩ := al2 i v h
    exact ⟨a, y, ds, rfl, hy, rd, (dv.same (Jv.hide_le)).same s, (ra.same (Jv.hide_le)).same s⟩
  clear rule_at less al al2 kp6 hh6 kp5 hh5
  walk_at "r"
  refine ⟨_, _, rfl, Jv.sqL_at eD2, ?_⟩
  refine for_it (walk_enum (K := K) (a := D2) (xs := ys2)) (fun i σ H' => ∃ y7 y8 y9 y10, σ = [some (.ref a), some (.ref p), some (.ref r), some (.int L), some (.ref D), y5, some (.ref D2), y7, y8, y9, y10, none] ∧ Same H6 H') ⟨_, _, _, _, rfl, Same.refl _⟩ (fun i σ H' _ ⟨_, _, _, _, _, s⟩ => Jv.sqL_at (s _ _ eD2)) ?_ ?_
  · rintro i x σ H7 H8 hi ⟨y7, y8, y9, y10, rfl, s7⟩ ⟨P1, x1, x2, rfl, hp1, rfl, hx1, hx2⟩
    cases hx1
    have s8 := s7.trans (Jv.same_new (u := .tup [V.int (i : Nat), x2]) hp1)
    walk_at "r"
    refine ⟨_, _, rfl, Jv.sqL_at (s8 _ _ eD2), ?_⟩
    refine for_it (walk_enum (K := K) (a := D2) (xs := ys2)) (fun i' σ H' => ∃ y9 y10, σ = [some (.ref a), some (.ref p), some (.ref r), some (.int L), some (.ref D), y5, some (.ref D2), some (.int (i : Nat)), some x2, y9, y10, none] ∧ Same H6 H') ⟨_, _, rfl, s8⟩ (fun i σ H' _ ⟨_, _, _, s⟩ => Jv.sqL_at (s _ _ eD2)) ?_ ?_
    · rintro i' x' σ H9 H10 hi' ⟨y9, y10, rfl, s9⟩ ⟨P2, z1, z2, rfl, hp2, rfl, hz1, hz2⟩
      cases hz1
      have s10 := s9.trans (Jv.same_new (u := .tup [V.int (i' : Nat), z2]) hp2)
      obtain ⟨a1, u1, ds1, rfl, hu1, rd1, dv1, ra1⟩ := made_at _ s10 i x2 hx2
      obtain ⟨a2, u2, ds2, rfl, hu2, rd2, dv2, ra2⟩ := made_at _ s10 i' z2 hz2
      obtain ⟨dx1, fs1, e1⟩ := ra1.ins
      obtain ⟨dx2, fs2, e2⟩ := ra2.ins
      have eD10 := s10 _ _ eD6
      walk_at "r"
      refine ⟨a1, _, _, a2, rfl, rfl, e1, .inl ⟨_, _, e2⟩, a1, a2, ds1, rfl, ra1, rule_shp rd1, .inl ⟨ds2, ra2, rule_shp rd2, _, rfl, ?_⟩⟩
      walk_at "r"
      refine Jv.r_ixL (Jv.sqL_at eD10) (Jv.at_i (by omega) (by rw [Int.toNat_natCast]; exact hu1)) ?_
      walk_at "r"
      refine Jv.r_ixL (Jv.sqL_at eD10) (Jv.at_i (by omega) (by rw [Int.toNat_natCast]; exact hu2)) ?_
      walk_at "r"
      refine ⟨_, _, dv1.dp, dv2.dp, rule_tup rd1, rule_tup rd2, ?_⟩
      rw [show PyData.eqv (.tuple ds1) (.tuple ds2) = PyData.eqvAll ds1 ds2 by simp only [PyData.eqv]]
      generalize PyData.eqvAll ds1 ds2 = bb
      cases bb
      all_goals
        walk_at "r"
        exact ⟨_, _, rfl, s10⟩
    · rintro σ H9 ⟨y9, y10, rfl, s9⟩
      walk_at "r"
      exact ⟨_, _, _, _, rfl, s9⟩
  · rintro σ H7 ⟨y7, y8, y9, y10, rfl, s7⟩
    walk_at "r"
    exact q _
end
end K17

namespace K17
open PySem PySem.Spec PyProof.Rows L2
theorem all_mk {P : Program} {w : World} {fa : Addr} {K : PySem.W.Frag} {h : Heap} {mg : Str → Option Value} (X : K.In h) (G : h.Ns mainGlobals mg) (hfa : mg "law" = some (.ref fa))
  {C_CallError : Addr}
  {C_BadRule : Addr}
  {C_BadRaise : Addr}
  {C_Rule : Addr}
  {f_BadRuleu_initu : Addr} {od_BadRuleu_initu an_BadRuleu_initu : Option Addr} {sl_BadRuleu_initu : Array (Option Value)} {oc_BadRuleu_initu kV_BadRuleu_initu dc_BadRuleu_initu pm_BadRuleu_initu cd_BadRuleu_initu ct_BadRuleu_initu : Value}
  {f_is_whole : Addr} {od_is_whole an_is_whole : Option Addr} {sl_is_whole : Array (Option Value)} {oc_is_whole kV_is_whole dc_is_whole pm_is_whole cd_is_whole ct_is_whole : Value}
  {q_is_whole : Addr} {qc_is_whole : Value} {qd_is_whole : Option Addr} {qs_is_whole : Array (Option Value)} {qn_is_whole : Nat}
  {f_is_sequence : Addr} {od_is_sequence an_is_sequence : Option Addr} {sl_is_sequence : Array (Option Value)} {oc_is_sequence kV_is_sequence dc_is_sequence pm_is_sequence cd_is_sequence ct_is_sequence : Value}
  {f_is_name : Addr} {od_is_name an_is_name : Option Addr} {sl_is_name : Array (Option Value)} {oc_is_name kV_is_name dc_is_name pm_is_name cd_is_name ct_is_name : Value}
  {f_is_test : Addr} {od_is_test an_is_test : Option Addr} {sl_is_test : Array (Option Value)} {oc_is_test kV_is_test dc_is_test pm_is_test cd_is_test ct_is_test : Value}
  {f_are_tests : Addr} {od_are_tests an_are_tests : Option Addr} {sl_are_tests : Array (Option Value)} {oc_are_tests kV_are_tests dc_are_tests pm_are_tests cd_are_tests ct_are_tests : Value}
  {f_is_condition : Addr} {od_is_condition an_is_condition : Option Addr} {sl_is_condition : Array (Option Value)} {oc_is_condition kV_is_condition dc_is_condition pm_is_condition cd_is_condition ct_is_condition : Value}
  {f_words_fault : Addr} {od_words_fault an_words_fault : Option Addr} {sl_words_fault : Array (Option Value)} {oc_words_fault kV_words_fault dc_words_fault pm_words_fault cd_words_fault ct_words_fault : Value}
  {f_bounds_fault : Addr} {od_bounds_fault an_bounds_fault : Option Addr} {sl_bounds_fault : Array (Option Value)} {oc_bounds_fault kV_bounds_fault dc_bounds_fault pm_bounds_fault cd_bounds_fault ct_bounds_fault : Value}
  {f_raised_number : Addr} {od_raised_number an_raised_number : Option Addr} {sl_raised_number : Array (Option Value)} {oc_raised_number kV_raised_number dc_raised_number pm_raised_number cd_raised_number ct_raised_number : Value}
  {f_Ruleu_initu : Addr} {od_Ruleu_initu an_Ruleu_initu : Option Addr} {sl_Ruleu_initu : Array (Option Value)} {oc_Ruleu_initu kV_Ruleu_initu dc_Ruleu_initu pm_Ruleu_initu cd_Ruleu_initu ct_Ruleu_initu : Value}
  {q_Ruleu_initu : Addr} {qc_Ruleu_initu : Value} {qd_Ruleu_initu : Option Addr} {qs_Ruleu_initu : Array (Option Value)} {qn_Ruleu_initu : Nat}
  {qt4_Ruleu_initu : Tok}
  {w0_Ruleu_initu : Addr} {wd0_Ruleu_initu : Option Addr} {wn0_Ruleu_initu : Nat} {ws0_Ruleu_initu : Array (Option Value)}
  {f_Ruleu_equ : Addr} {od_Ruleu_equ an_Ruleu_equ : Option Addr} {sl_Ruleu_equ : Array (Option Value)} {oc_Ruleu_equ kV_Ruleu_equ dc_Ruleu_equ pm_Ruleu_equ cd_Ruleu_equ ct_Ruleu_equ : Value}
  {f_Rule_raised : Addr} {od_Rule_raised an_Rule_raised : Option Addr} {sl_Rule_raised : Array (Option Value)} {oc_Rule_raised kV_Rule_raised dc_Rule_raised pm_Rule_raised cd_Rule_raised ct_Rule_raised : Value}
  {f_Lmix : Addr} {od_Lmix an_Lmix : Option Addr} {sl_Lmix : Array (Option Value)} {oc_Lmix kV_Lmix dc_Lmix pm_Lmix cd_Lmix ct_Lmix : Value}
  {f_Lhand : Addr} {od_Lhand an_Lhand : Option Addr} {sl_Lhand : Array (Option Value)} {oc_Lhand kV_Lhand dc_Lhand pm_Lhand cd_Lhand ct_Lhand : Value}
  {f_Ldraw : Addr} {od_Ldraw an_Ldraw : Option Addr} {sl_Ldraw : Array (Option Value)} {oc_Ldraw kV_Ldraw dc_Ldraw pm_Ldraw cd_Ldraw ct_Ldraw : Value}
  {f_Lwhole : Addr} {od_Lwhole an_Lwhole : Option Addr} {sl_Lwhole : Array (Option Value)} {oc_Lwhole kV_Lwhole dc_Lwhole pm_Lwhole cd_Lwhole ct_Lwhole : Value}
  {f_Lpick : Addr} {od_Lpick an_Lpick : Option Addr} {sl_Lpick : Array (Option Value)} {oc_Lpick kV_Lpick dc_Lpick pm_Lpick cd_Lpick ct_Lpick : Value}
  {f_Lshape : Addr} {od_Lshape an_Lshape : Option Addr} {sl_Lshape : Array (Option Value)} {oc_Lshape kV_Lshape dc_Lshape pm_Lshape cd_Lshape ct_Lshape : Value}
  {f_Ldeep : Addr} {od_Ldeep an_Ldeep : Option Addr} {sl_Ldeep : Array (Option Value)} {oc_Ldeep kV_Ldeep dc_Ldeep pm_Ldeep cd_Ldeep ct_Ldeep : Value}
  {f_Lsame : Addr} {od_Lsame an_Lsame : Option Addr} {sl_Lsame : Array (Option Value)} {oc_Lsame kV_Lsame dc_Lsame pm_Lsame cd_Lsame ct_Lsame : Value}
  {f_Lnames : Addr} {od_Lnames an_Lnames : Option Addr} {sl_Lnames : Array (Option Value)} {oc_Lnames kV_Lnames dc_Lnames pm_Lnames cd_Lnames ct_Lnames : Value}
  {f_Ltests : Addr} {od_Ltests an_Ltests : Option Addr} {sl_Ltests : Array (Option Value)} {oc_Ltests kV_Ltests dc_Ltests pm_Ltests cd_Ltests ct_Ltests : Value}
  {f_Lasked : Addr} {od_Lasked an_Lasked : Option Addr} {sl_Lasked : Array (Option Value)} {oc_Lasked kV_Lasked dc_Lasked pm_Lasked cd_Lasked ct_Lasked : Value}
  {f_Lrule : Addr} {od_Lrule an_Lrule : Option Addr} {sl_Lrule : Array (Option Value)} {oc_Lrule kV_Lrule dc_Lrule pm_Lrule cd_Lrule ct_Lrule : Value}
  {f_Lmade : Addr} {od_Lmade an_Lmade : Option Addr} {sl_Lmade : Array (Option Value)} {oc_Lmade kV_Lmade dc_Lmade pm_Lmade cd_Lmade ct_Lmade : Value}
  {f_Lis_rule : Addr} {od_Lis_rule an_Lis_rule : Option Addr} {sl_Lis_rule : Array (Option Value)} {oc_Lis_rule kV_Lis_rule dc_Lis_rule pm_Lis_rule cd_Lis_rule ct_Lis_rule : Value}
  {f_Lup : Addr} {od_Lup an_Lup : Option Addr} {sl_Lup : Array (Option Value)} {oc_Lup kV_Lup dc_Lup pm_Lup cd_Lup ct_Lup : Value}
  {f_Lraised : Addr} {od_Lraised an_Lraised : Option Addr} {sl_Lraised : Array (Option Value)} {oc_Lraised kV_Lraised dc_Lraised pm_Lraised cd_Lraised ct_Lraised : Value}
  {f_Lodd : Addr} {od_Lodd an_Lodd : Option Addr} {sl_Lodd : Array (Option Value)} {oc_Lodd kV_Lodd dc_Lodd pm_Lodd cd_Lodd ct_Lodd : Value}
  {f_Ltries : Addr} {od_Ltries an_Ltries : Option Addr} {sl_Ltries : Array (Option Value)} {oc_Ltries kV_Ltries dc_Ltries pm_Ltries cd_Ltries ct_Ltries : Value}
  {f_Llabels : Addr} {od_Llabels an_Llabels : Option Addr} {sl_Llabels : Array (Option Value)} {oc_Llabels kV_Llabels dc_Llabels pm_Llabels cd_Llabels ct_Llabels : Value}
  {f_Lrefused : Addr} {od_Lrefused an_Lrefused : Option Addr} {sl_Lrefused : Array (Option Value)} {oc_Lrefused kV_Lrefused dc_Lrefused pm_Lrefused cd_Lrefused ct_Lrefused : Value}
  {f_Lother : Addr} {od_Lother an_Lother : Option Addr} {sl_Lother : Array (Option Value)} {oc_Lother kV_Lother dc_Lother pm_Lother cd_Lother ct_Lother : Value}
  {f_Lequal : Addr} {od_Lequal an_Lequal : Option Addr} {sl_Lequal : Array (Option Value)} {oc_Lequal kV_Lequal dc_Lequal pm_Lequal cd_Lequal ct_Lequal : Value}
  {f_Lleft_out : Addr} {od_Lleft_out an_Lleft_out : Option Addr} {sl_Lleft_out : Array (Option Value)} {oc_Lleft_out kV_Lleft_out dc_Lleft_out pm_Lleft_out cd_Lleft_out ct_Lleft_out : Value}
  {f_Lraise : Addr} {od_Lraise an_Lraise : Option Addr} {sl_Lraise : Array (Option Value)} {oc_Lraise kV_Lraise dc_Lraise pm_Lraise cd_Lraise ct_Lraise : Value}
  {f_Lraises : Addr} {od_Lraises an_Lraises : Option Addr} {sl_Lraises : Array (Option Value)} {oc_Lraises kV_Lraises dc_Lraises pm_Lraises cd_Lraises ct_Lraises : Value}
  {f_law : Addr} {od_law an_law : Option Addr} {sl_law : Array (Option Value)} {oc_law kV_law dc_law pm_law cd_law ct_law : Value}
  {nm_BadRule qn_BadRule : Str} {N_BadRule : Addr} {bs_BadRule : List Value} {sn_BadRule : List Str} {sb_BadRule : List Value} {ab_BadRule : Bool} {co_BadRule : Option Bool} {dd_BadRule : Option Addr} {m0_BadRule m1_BadRule m2_BadRule m3_BadRule m5_BadRule : Option Value}
  {t_EAST : Tok}
  {t_WEST : Tok}
  {t_LADDER_MOST : Tok}
  {t_LETTERS_MOST : Tok}
  {t_NUMBER_MOST : Tok}
  {t_NONE : Tok}
  {t_TESTS_MOST : Tok}
  (a_CallError : PySem.W.nsIn K mainGlobals "CallError" = some (some (.ref C_CallError)))
  (a_BadRule : PySem.W.nsIn K mainGlobals "BadRule" = some (some (.ref C_BadRule)))
  (a_BadRaise : PySem.W.nsIn K mainGlobals "BadRaise" = some (some (.ref C_BadRaise)))
  (a_Rule : PySem.W.nsIn K mainGlobals "Rule" = some (some (.ref C_Rule)))
  (a_BadRuleu_initu : PySem.W.findIn K (.ref C_BadRule) "__init__" = some (some (.ref f_BadRuleu_initu)))
  (l_BadRuleu_initu : K.lookup f_BadRuleu_initu = some ⟨oc_BadRuleu_initu, od_BadRuleu_initu, .func (PySem.W.fnOf "__init__" "BadRule.__init__" (defArgs s_BadRuleu_initu) (defBody s_BadRuleu_initu) (defScope s_BadRuleu_initu) .none kV_BadRuleu_initu dc_BadRuleu_initu pm_BadRuleu_initu an_BadRuleu_initu cd_BadRuleu_initu ct_BadRuleu_initu), sl_BadRuleu_initu⟩)
  (c_BadRuleu_initu : PySem.W.codeIn K cd_BadRuleu_initu "BadRule.__init__" = true)
  (k_BadRuleu_initu : PySem.W.keepIn K (.ref f_BadRuleu_initu) = true)
  (a_is_whole : PySem.W.nsIn K mainGlobals "is_whole" = some (some (.ref f_is_whole)))
  (l_is_whole : K.lookup f_is_whole = some ⟨oc_is_whole, od_is_whole, .func (PySem.W.fnOf "is_whole" "is_whole" (defArgs s_is_whole) (defBody s_is_whole) (defScope s_is_whole) (.ref q_is_whole) kV_is_whole dc_is_whole pm_is_whole an_is_whole cd_is_whole ct_is_whole), sl_is_whole⟩)
  (c_is_whole : PySem.W.codeIn K cd_is_whole "is_whole" = true)
  (k_is_whole : PySem.W.keepIn K (.ref f_is_whole) = true)
  (t_is_whole : K.lookup q_is_whole = some ⟨qc_is_whole, qd_is_whole, .seq #[Value.none, Value.none] qn_is_whole, qs_is_whole⟩)
  (a_is_sequence : PySem.W.nsIn K mainGlobals "is_sequence" = some (some (.ref f_is_sequence)))
  (l_is_sequence : K.lookup f_is_sequence = some ⟨oc_is_sequence, od_is_sequence, .func (PySem.W.fnOf "is_sequence" "is_sequence" (defArgs s_is_sequence) (defBody s_is_sequence) (defScope s_is_sequence) .none kV_is_sequence dc_is_sequence pm_is_sequence an_is_sequence cd_is_sequence ct_is_sequence), sl_is_sequence⟩)
  (c_is_sequence : PySem.W.codeIn K cd_is_sequence "is_sequence" = true)
  (k_is_sequence : PySem.W.keepIn K (.ref f_is_sequence) = true)
  (a_is_name : PySem.W.nsIn K mainGlobals "is_name" = some (some (.ref f_is_name)))
  (l_is_name : K.lookup f_is_name = some ⟨oc_is_name, od_is_name, .func (PySem.W.fnOf "is_name" "is_name" (defArgs s_is_name) (defBody s_is_name) (defScope s_is_name) .none kV_is_name dc_is_name pm_is_name an_is_name cd_is_name ct_is_name), sl_is_name⟩)
  (c_is_name : PySem.W.codeIn K cd_is_name "is_name" = true)
  (k_is_name : PySem.W.keepIn K (.ref f_is_name) = true)
  (a_is_test : PySem.W.nsIn K mainGlobals "is_test" = some (some (.ref f_is_test)))
  (l_is_test : K.lookup f_is_test = some ⟨oc_is_test, od_is_test, .func (PySem.W.fnOf "is_test" "is_test" (defArgs s_is_test) (defBody s_is_test) (defScope s_is_test) .none kV_is_test dc_is_test pm_is_test an_is_test cd_is_test ct_is_test), sl_is_test⟩)
  (c_is_test : PySem.W.codeIn K cd_is_test "is_test" = true)
  (k_is_test : PySem.W.keepIn K (.ref f_is_test) = true)
  (a_are_tests : PySem.W.nsIn K mainGlobals "are_tests" = some (some (.ref f_are_tests)))
  (l_are_tests : K.lookup f_are_tests = some ⟨oc_are_tests, od_are_tests, .func (PySem.W.fnOf "are_tests" "are_tests" (defArgs s_are_tests) (defBody s_are_tests) (defScope s_are_tests) .none kV_are_tests dc_are_tests pm_are_tests an_are_tests cd_are_tests ct_are_tests), sl_are_tests⟩)
  (c_are_tests : PySem.W.codeIn K cd_are_tests "are_tests" = true)
  (k_are_tests : PySem.W.keepIn K (.ref f_are_tests) = true)
  (a_is_condition : PySem.W.nsIn K mainGlobals "is_condition" = some (some (.ref f_is_condition)))
  (l_is_condition : K.lookup f_is_condition = some ⟨oc_is_condition, od_is_condition, .func (PySem.W.fnOf "is_condition" "is_condition" (defArgs s_is_condition) (defBody s_is_condition) (defScope s_is_condition) .none kV_is_condition dc_is_condition pm_is_condition an_is_condition cd_is_condition ct_is_condition), sl_is_condition⟩)
  (c_is_condition : PySem.W.codeIn K cd_is_condition "is_condition" = true)
  (k_is_condition : PySem.W.keepIn K (.ref f_is_condition) = true)
  (a_words_fault : PySem.W.nsIn K mainGlobals "words_fault" = some (some (.ref f_words_fault)))
  (l_words_fault : K.lookup f_words_fault = some ⟨oc_words_fault, od_words_fault, .func (PySem.W.fnOf "words_fault" "words_fault" (defArgs s_words_fault) (defBody s_words_fault) (defScope s_words_fault) .none kV_words_fault dc_words_fault pm_words_fault an_words_fault cd_words_fault ct_words_fault), sl_words_fault⟩)
  (c_words_fault : PySem.W.codeIn K cd_words_fault "words_fault" = true)
  (k_words_fault : PySem.W.keepIn K (.ref f_words_fault) = true)
  (a_bounds_fault : PySem.W.nsIn K mainGlobals "bounds_fault" = some (some (.ref f_bounds_fault)))
  (l_bounds_fault : K.lookup f_bounds_fault = some ⟨oc_bounds_fault, od_bounds_fault, .func (PySem.W.fnOf "bounds_fault" "bounds_fault" (defArgs s_bounds_fault) (defBody s_bounds_fault) (defScope s_bounds_fault) .none kV_bounds_fault dc_bounds_fault pm_bounds_fault an_bounds_fault cd_bounds_fault ct_bounds_fault), sl_bounds_fault⟩)
  (c_bounds_fault : PySem.W.codeIn K cd_bounds_fault "bounds_fault" = true)
  (k_bounds_fault : PySem.W.keepIn K (.ref f_bounds_fault) = true)
  (a_raised_number : PySem.W.nsIn K mainGlobals "raised_number" = some (some (.ref f_raised_number)))
  (l_raised_number : K.lookup f_raised_number = some ⟨oc_raised_number, od_raised_number, .func (PySem.W.fnOf "raised_number" "raised_number" (defArgs s_raised_number) (defBody s_raised_number) (defScope s_raised_number) .none kV_raised_number dc_raised_number pm_raised_number an_raised_number cd_raised_number ct_raised_number), sl_raised_number⟩)
  (c_raised_number : PySem.W.codeIn K cd_raised_number "raised_number" = true)
  (k_raised_number : PySem.W.keepIn K (.ref f_raised_number) = true)
  (a_Ruleu_initu : PySem.W.findIn K (.ref C_Rule) "__init__" = some (some (.ref f_Ruleu_initu)))
  (l_Ruleu_initu : K.lookup f_Ruleu_initu = some ⟨oc_Ruleu_initu, od_Ruleu_initu, .func (PySem.W.fnOf "__init__" "Rule.__init__" (defArgs s_Ruleu_initu) (defBody s_Ruleu_initu) (defScope s_Ruleu_initu) (.ref q_Ruleu_initu) kV_Ruleu_initu dc_Ruleu_initu pm_Ruleu_initu an_Ruleu_initu cd_Ruleu_initu ct_Ruleu_initu), sl_Ruleu_initu⟩)
  (c_Ruleu_initu : PySem.W.codeIn K cd_Ruleu_initu "Rule.__init__" = true)
  (k_Ruleu_initu : PySem.W.keepIn K (.ref f_Ruleu_initu) = true)
  (t_Ruleu_initu : K.lookup q_Ruleu_initu = some ⟨qc_Ruleu_initu, qd_Ruleu_initu, .seq #[Value.ref w0_Ruleu_initu, Value.none, Value.none, Value.none, Value.int (0) qt4_Ruleu_initu, Value.none, Value.none] qn_Ruleu_initu, qs_Ruleu_initu⟩)
  (w0_Ruleu_initu_ : K.lookup w0_Ruleu_initu = some ⟨.type "tuple", wd0_Ruleu_initu, .seq #[] wn0_Ruleu_initu, ws0_Ruleu_initu⟩)
  (a_Ruleu_equ : PySem.W.findIn K (.ref C_Rule) "__eq__" = some (some (.ref f_Ruleu_equ)))
  (l_Ruleu_equ : K.lookup f_Ruleu_equ = some ⟨oc_Ruleu_equ, od_Ruleu_equ, .func (PySem.W.fnOf "__eq__" "Rule.__eq__" (defArgs s_Ruleu_equ) (defBody s_Ruleu_equ) (defScope s_Ruleu_equ) .none kV_Ruleu_equ dc_Ruleu_equ pm_Ruleu_equ an_Ruleu_equ cd_Ruleu_equ ct_Ruleu_equ), sl_Ruleu_equ⟩)
  (c_Ruleu_equ : PySem.W.codeIn K cd_Ruleu_equ "Rule.__eq__" = true)
  (k_Ruleu_equ : PySem.W.keepIn K (.ref f_Ruleu_equ) = true)
  (a_Rule_raised : PySem.W.findIn K (.ref C_Rule) "raised" = some (some (.ref f_Rule_raised)))
  (l_Rule_raised : K.lookup f_Rule_raised = some ⟨oc_Rule_raised, od_Rule_raised, .func (PySem.W.fnOf "raised" "Rule.raised" (defArgs s_Rule_raised) (defBody s_Rule_raised) (defScope s_Rule_raised) .none kV_Rule_raised dc_Rule_raised pm_Rule_raised an_Rule_raised cd_Rule_raised ct_Rule_raised), sl_Rule_raised⟩)
  (c_Rule_raised : PySem.W.codeIn K cd_Rule_raised "Rule.raised" = true)
  (k_Rule_raised : PySem.W.keepIn K (.ref f_Rule_raised) = true)
  (a_Lmix : PySem.W.nsIn K mainGlobals "_law_mix" = some (some (.ref f_Lmix)))
  (l_Lmix : K.lookup f_Lmix = some ⟨oc_Lmix, od_Lmix, .func (PySem.W.fnOf "_law_mix" "_law_mix" (defArgs s_Lmix) (defBody s_Lmix) (defScope s_Lmix) .none kV_Lmix dc_Lmix pm_Lmix an_Lmix cd_Lmix ct_Lmix), sl_Lmix⟩)
  (c_Lmix : PySem.W.codeIn K cd_Lmix "_law_mix" = true)
  (k_Lmix : PySem.W.keepIn K (.ref f_Lmix) = true)
  (a_Lhand : PySem.W.nsIn K mainGlobals "_law_hand" = some (some (.ref f_Lhand)))
  (l_Lhand : K.lookup f_Lhand = some ⟨oc_Lhand, od_Lhand, .func (PySem.W.fnOf "_law_hand" "_law_hand" (defArgs s_Lhand) (defBody s_Lhand) (defScope s_Lhand) .none kV_Lhand dc_Lhand pm_Lhand an_Lhand cd_Lhand ct_Lhand), sl_Lhand⟩)
  (c_Lhand : PySem.W.codeIn K cd_Lhand "_law_hand" = true)
  (k_Lhand : PySem.W.keepIn K (.ref f_Lhand) = true)
  (a_Ldraw : PySem.W.nsIn K mainGlobals "_law_draw" = some (some (.ref f_Ldraw)))
  (l_Ldraw : K.lookup f_Ldraw = some ⟨oc_Ldraw, od_Ldraw, .func (PySem.W.fnOf "_law_draw" "_law_draw" (defArgs s_Ldraw) (defBody s_Ldraw) (defScope s_Ldraw) .none kV_Ldraw dc_Ldraw pm_Ldraw an_Ldraw cd_Ldraw ct_Ldraw), sl_Ldraw⟩)
  (c_Ldraw : PySem.W.codeIn K cd_Ldraw "_law_draw" = true)
  (k_Ldraw : PySem.W.keepIn K (.ref f_Ldraw) = true)
  (a_Lwhole : PySem.W.nsIn K mainGlobals "_law_whole" = some (some (.ref f_Lwhole)))
  (l_Lwhole : K.lookup f_Lwhole = some ⟨oc_Lwhole, od_Lwhole, .func (PySem.W.fnOf "_law_whole" "_law_whole" (defArgs s_Lwhole) (defBody s_Lwhole) (defScope s_Lwhole) .none kV_Lwhole dc_Lwhole pm_Lwhole an_Lwhole cd_Lwhole ct_Lwhole), sl_Lwhole⟩)
  (c_Lwhole : PySem.W.codeIn K cd_Lwhole "_law_whole" = true)
  (k_Lwhole : PySem.W.keepIn K (.ref f_Lwhole) = true)
  (a_Lpick : PySem.W.nsIn K mainGlobals "_law_pick" = some (some (.ref f_Lpick)))
  (l_Lpick : K.lookup f_Lpick = some ⟨oc_Lpick, od_Lpick, .func (PySem.W.fnOf "_law_pick" "_law_pick" (defArgs s_Lpick) (defBody s_Lpick) (defScope s_Lpick) .none kV_Lpick dc_Lpick pm_Lpick an_Lpick cd_Lpick ct_Lpick), sl_Lpick⟩)
  (c_Lpick : PySem.W.codeIn K cd_Lpick "_law_pick" = true)
  (k_Lpick : PySem.W.keepIn K (.ref f_Lpick) = true)
  (a_Lshape : PySem.W.nsIn K mainGlobals "_law_shape" = some (some (.ref f_Lshape)))
  (l_Lshape : K.lookup f_Lshape = some ⟨oc_Lshape, od_Lshape, .func (PySem.W.fnOf "_law_shape" "_law_shape" (defArgs s_Lshape) (defBody s_Lshape) (defScope s_Lshape) .none kV_Lshape dc_Lshape pm_Lshape an_Lshape cd_Lshape ct_Lshape), sl_Lshape⟩)
  (c_Lshape : PySem.W.codeIn K cd_Lshape "_law_shape" = true)
  (k_Lshape : PySem.W.keepIn K (.ref f_Lshape) = true)
  (a_Ldeep : PySem.W.nsIn K mainGlobals "_law_deep" = some (some (.ref f_Ldeep)))
  (l_Ldeep : K.lookup f_Ldeep = some ⟨oc_Ldeep, od_Ldeep, .func (PySem.W.fnOf "_law_deep" "_law_deep" (defArgs s_Ldeep) (defBody s_Ldeep) (defScope s_Ldeep) .none kV_Ldeep dc_Ldeep pm_Ldeep an_Ldeep cd_Ldeep ct_Ldeep), sl_Ldeep⟩)
  (c_Ldeep : PySem.W.codeIn K cd_Ldeep "_law_deep" = true)
  (k_Ldeep : PySem.W.keepIn K (.ref f_Ldeep) = true)
  (a_Lsame : PySem.W.nsIn K mainGlobals "_law_same" = some (some (.ref f_Lsame)))
  (l_Lsame : K.lookup f_Lsame = some ⟨oc_Lsame, od_Lsame, .func (PySem.W.fnOf "_law_same" "_law_same" (defArgs s_Lsame) (defBody s_Lsame) (defScope s_Lsame) .none kV_Lsame dc_Lsame pm_Lsame an_Lsame cd_Lsame ct_Lsame), sl_Lsame⟩)
  (c_Lsame : PySem.W.codeIn K cd_Lsame "_law_same" = true)
  (k_Lsame : PySem.W.keepIn K (.ref f_Lsame) = true)
  (a_Lnames : PySem.W.nsIn K mainGlobals "_law_names" = some (some (.ref f_Lnames)))
  (l_Lnames : K.lookup f_Lnames = some ⟨oc_Lnames, od_Lnames, .func (PySem.W.fnOf "_law_names" "_law_names" (defArgs s_Lnames) (defBody s_Lnames) (defScope s_Lnames) .none kV_Lnames dc_Lnames pm_Lnames an_Lnames cd_Lnames ct_Lnames), sl_Lnames⟩)
  (c_Lnames : PySem.W.codeIn K cd_Lnames "_law_names" = true)
  (k_Lnames : PySem.W.keepIn K (.ref f_Lnames) = true)
  (a_Ltests : PySem.W.nsIn K mainGlobals "_law_tests" = some (some (.ref f_Ltests)))
  (l_Ltests : K.lookup f_Ltests = some ⟨oc_Ltests, od_Ltests, .func (PySem.W.fnOf "_law_tests" "_law_tests" (defArgs s_Ltests) (defBody s_Ltests) (defScope s_Ltests) .none kV_Ltests dc_Ltests pm_Ltests an_Ltests cd_Ltests ct_Ltests), sl_Ltests⟩)
  (c_Ltests : PySem.W.codeIn K cd_Ltests "_law_tests" = true)
  (k_Ltests : PySem.W.keepIn K (.ref f_Ltests) = true)
  (a_Lasked : PySem.W.nsIn K mainGlobals "_law_asked" = some (some (.ref f_Lasked)))
  (l_Lasked : K.lookup f_Lasked = some ⟨oc_Lasked, od_Lasked, .func (PySem.W.fnOf "_law_asked" "_law_asked" (defArgs s_Lasked) (defBody s_Lasked) (defScope s_Lasked) .none kV_Lasked dc_Lasked pm_Lasked an_Lasked cd_Lasked ct_Lasked), sl_Lasked⟩)
  (c_Lasked : PySem.W.codeIn K cd_Lasked "_law_asked" = true)
  (k_Lasked : PySem.W.keepIn K (.ref f_Lasked) = true)
  (a_Lrule : PySem.W.nsIn K mainGlobals "_law_rule" = some (some (.ref f_Lrule)))
  (l_Lrule : K.lookup f_Lrule = some ⟨oc_Lrule, od_Lrule, .func (PySem.W.fnOf "_law_rule" "_law_rule" (defArgs s_Lrule) (defBody s_Lrule) (defScope s_Lrule) .none kV_Lrule dc_Lrule pm_Lrule an_Lrule cd_Lrule ct_Lrule), sl_Lrule⟩)
  (c_Lrule : PySem.W.codeIn K cd_Lrule "_law_rule" = true)
  (k_Lrule : PySem.W.keepIn K (.ref f_Lrule) = true)
  (a_Lmade : PySem.W.nsIn K mainGlobals "_law_made" = some (some (.ref f_Lmade)))
  (l_Lmade : K.lookup f_Lmade = some ⟨oc_Lmade, od_Lmade, .func (PySem.W.fnOf "_law_made" "_law_made" (defArgs s_Lmade) (defBody s_Lmade) (defScope s_Lmade) .none kV_Lmade dc_Lmade pm_Lmade an_Lmade cd_Lmade ct_Lmade), sl_Lmade⟩)
  (c_Lmade : PySem.W.codeIn K cd_Lmade "_law_made" = true)
  (k_Lmade : PySem.W.keepIn K (.ref f_Lmade) = true)
  (a_Lis_rule : PySem.W.nsIn K mainGlobals "_law_is_rule" = some (some (.ref f_Lis_rule)))
  (l_Lis_rule : K.lookup f_Lis_rule = some ⟨oc_Lis_rule, od_Lis_rule, .func (PySem.W.fnOf "_law_is_rule" "_law_is_rule" (defArgs s_Lis_rule) (defBody s_Lis_rule) (defScope s_Lis_rule) .none kV_Lis_rule dc_Lis_rule pm_Lis_rule an_Lis_rule cd_Lis_rule ct_Lis_rule), sl_Lis_rule⟩)
  (c_Lis_rule : PySem.W.codeIn K cd_Lis_rule "_law_is_rule" = true)
  (k_Lis_rule : PySem.W.keepIn K (.ref f_Lis_rule) = true)
  (a_Lup : PySem.W.nsIn K mainGlobals "_law_up" = some (some (.ref f_Lup)))
  (l_Lup : K.lookup f_Lup = some ⟨oc_Lup, od_Lup, .func (PySem.W.fnOf "_law_up" "_law_up" (defArgs s_Lup) (defBody s_Lup) (defScope s_Lup) .none kV_Lup dc_Lup pm_Lup an_Lup cd_Lup ct_Lup), sl_Lup⟩)
  (c_Lup : PySem.W.codeIn K cd_Lup "_law_up" = true)
  (k_Lup : PySem.W.keepIn K (.ref f_Lup) = true)
  (a_Lraised : PySem.W.nsIn K mainGlobals "_law_raised" = some (some (.ref f_Lraised)))
  (l_Lraised : K.lookup f_Lraised = some ⟨oc_Lraised, od_Lraised, .func (PySem.W.fnOf "_law_raised" "_law_raised" (defArgs s_Lraised) (defBody s_Lraised) (defScope s_Lraised) .none kV_Lraised dc_Lraised pm_Lraised an_Lraised cd_Lraised ct_Lraised), sl_Lraised⟩)
  (c_Lraised : PySem.W.codeIn K cd_Lraised "_law_raised" = true)
  (k_Lraised : PySem.W.keepIn K (.ref f_Lraised) = true)
  (a_Lodd : PySem.W.nsIn K mainGlobals "_law_odd" = some (some (.ref f_Lodd)))
  (l_Lodd : K.lookup f_Lodd = some ⟨oc_Lodd, od_Lodd, .func (PySem.W.fnOf "_law_odd" "_law_odd" (defArgs s_Lodd) (defBody s_Lodd) (defScope s_Lodd) .none kV_Lodd dc_Lodd pm_Lodd an_Lodd cd_Lodd ct_Lodd), sl_Lodd⟩)
  (c_Lodd : PySem.W.codeIn K cd_Lodd "_law_odd" = true)
  (k_Lodd : PySem.W.keepIn K (.ref f_Lodd) = true)
  (a_Ltries : PySem.W.nsIn K mainGlobals "_law_tries" = some (some (.ref f_Ltries)))
  (l_Ltries : K.lookup f_Ltries = some ⟨oc_Ltries, od_Ltries, .func (PySem.W.fnOf "_law_tries" "_law_tries" (defArgs s_Ltries) (defBody s_Ltries) (defScope s_Ltries) .none kV_Ltries dc_Ltries pm_Ltries an_Ltries cd_Ltries ct_Ltries), sl_Ltries⟩)
  (c_Ltries : PySem.W.codeIn K cd_Ltries "_law_tries" = true)
  (k_Ltries : PySem.W.keepIn K (.ref f_Ltries) = true)
  (a_Llabels : PySem.W.nsIn K mainGlobals "_law_labels" = some (some (.ref f_Llabels)))
  (l_Llabels : K.lookup f_Llabels = some ⟨oc_Llabels, od_Llabels, .func (PySem.W.fnOf "_law_labels" "_law_labels" (defArgs s_Llabels) (defBody s_Llabels) (defScope s_Llabels) .none kV_Llabels dc_Llabels pm_Llabels an_Llabels cd_Llabels ct_Llabels), sl_Llabels⟩)
  (c_Llabels : PySem.W.codeIn K cd_Llabels "_law_labels" = true)
  (k_Llabels : PySem.W.keepIn K (.ref f_Llabels) = true)
  (a_Lrefused : PySem.W.nsIn K mainGlobals "_law_refused" = some (some (.ref f_Lrefused)))
  (l_Lrefused : K.lookup f_Lrefused = some ⟨oc_Lrefused, od_Lrefused, .func (PySem.W.fnOf "_law_refused" "_law_refused" (defArgs s_Lrefused) (defBody s_Lrefused) (defScope s_Lrefused) .none kV_Lrefused dc_Lrefused pm_Lrefused an_Lrefused cd_Lrefused ct_Lrefused), sl_Lrefused⟩)
  (c_Lrefused : PySem.W.codeIn K cd_Lrefused "_law_refused" = true)
  (k_Lrefused : PySem.W.keepIn K (.ref f_Lrefused) = true)
  (a_Lother : PySem.W.nsIn K mainGlobals "_law_other" = some (some (.ref f_Lother)))
  (l_Lother : K.lookup f_Lother = some ⟨oc_Lother, od_Lother, .func (PySem.W.fnOf "_law_other" "_law_other" (defArgs s_Lother) (defBody s_Lother) (defScope s_Lother) .none kV_Lother dc_Lother pm_Lother an_Lother cd_Lother ct_Lother), sl_Lother⟩)
  (c_Lother : PySem.W.codeIn K cd_Lother "_law_other" = true)
  (k_Lother : PySem.W.keepIn K (.ref f_Lother) = true)
  (a_Lequal : PySem.W.nsIn K mainGlobals "_law_equal" = some (some (.ref f_Lequal)))
  (l_Lequal : K.lookup f_Lequal = some ⟨oc_Lequal, od_Lequal, .func (PySem.W.fnOf "_law_equal" "_law_equal" (defArgs s_Lequal) (defBody s_Lequal) (defScope s_Lequal) .none kV_Lequal dc_Lequal pm_Lequal an_Lequal cd_Lequal ct_Lequal), sl_Lequal⟩)
  (c_Lequal : PySem.W.codeIn K cd_Lequal "_law_equal" = true)
  (k_Lequal : PySem.W.keepIn K (.ref f_Lequal) = true)
  (a_Lleft_out : PySem.W.nsIn K mainGlobals "_law_left_out" = some (some (.ref f_Lleft_out)))
  (l_Lleft_out : K.lookup f_Lleft_out = some ⟨oc_Lleft_out, od_Lleft_out, .func (PySem.W.fnOf "_law_left_out" "_law_left_out" (defArgs s_Lleft_out) (defBody s_Lleft_out) (defScope s_Lleft_out) .none kV_Lleft_out dc_Lleft_out pm_Lleft_out an_Lleft_out cd_Lleft_out ct_Lleft_out), sl_Lleft_out⟩)
  (c_Lleft_out : PySem.W.codeIn K cd_Lleft_out "_law_left_out" = true)
  (k_Lleft_out : PySem.W.keepIn K (.ref f_Lleft_out) = true)
  (a_Lraise : PySem.W.nsIn K mainGlobals "_law_raise" = some (some (.ref f_Lraise)))
  (l_Lraise : K.lookup f_Lraise = some ⟨oc_Lraise, od_Lraise, .func (PySem.W.fnOf "_law_raise" "_law_raise" (defArgs s_Lraise) (defBody s_Lraise) (defScope s_Lraise) .none kV_Lraise dc_Lraise pm_Lraise an_Lraise cd_Lraise ct_Lraise), sl_Lraise⟩)
  (c_Lraise : PySem.W.codeIn K cd_Lraise "_law_raise" = true)
  (k_Lraise : PySem.W.keepIn K (.ref f_Lraise) = true)
  (a_Lraises : PySem.W.nsIn K mainGlobals "_law_raises" = some (some (.ref f_Lraises)))
  (l_Lraises : K.lookup f_Lraises = some ⟨oc_Lraises, od_Lraises, .func (PySem.W.fnOf "_law_raises" "_law_raises" (defArgs s_Lraises) (defBody s_Lraises) (defScope s_Lraises) .none kV_Lraises dc_Lraises pm_Lraises an_Lraises cd_Lraises ct_Lraises), sl_Lraises⟩)
  (c_Lraises : PySem.W.codeIn K cd_Lraises "_law_raises" = true)
  (k_Lraises : PySem.W.keepIn K (.ref f_Lraises) = true)
  (a_law : PySem.W.nsIn K mainGlobals "law" = some (some (.ref f_law)))
  (l_law : K.lookup f_law = some ⟨oc_law, od_law, .func (PySem.W.fnOf "law" "law" (defArgs s_law) (defBody s_law) (defScope s_law) .none kV_law dc_law pm_law an_law cd_law ct_law), sl_law⟩)
  (c_law : PySem.W.codeIn K cd_law "law" = true)
  (k_law : PySem.W.keepIn K (.ref f_law) = true)
  (k_CallError : PySem.W.keepIn K (.ref C_CallError) = true)
  (b_CallError : PySem.W.subIn K (.ref C_CallError) (.type "BaseException") = some true)
  (t_CallError : PySem.W.typeIn K (.ref C_CallError) = some (.type "type"))
  (i_CallError : PySem.W.isClsIn K C_CallError = true)
  (s_CallError : PySem.W.subIn K (.ref C_CallError) (.ref C_CallError) = some true)
  (x_CallError : PySem.W.excIn K C_CallError [.type "ValueError", .type "Exception", .type "BaseException", .type "object"] "ValueError.__new__" = true)
  (k_BadRule : PySem.W.keepIn K (.ref C_BadRule) = true)
  (b_BadRule : PySem.W.subIn K (.ref C_BadRule) (.type "BaseException") = some true)
  (t_BadRule : PySem.W.typeIn K (.ref C_BadRule) = some (.type "type"))
  (i_BadRule : PySem.W.isClsIn K C_BadRule = true)
  (s_BadRule : PySem.W.subIn K (.ref C_BadRule) (.ref C_BadRule) = some true)
  (x_BadRule : K.lookup C_BadRule = some (excClassObj nm_BadRule qn_BadRule C_BadRule N_BadRule bs_BadRule [.ref C_CallError, .type "ValueError", .type "Exception", .type "BaseException", .type "object"] true sn_BadRule sb_BadRule ab_BadRule co_BadRule dd_BadRule m0_BadRule m1_BadRule m2_BadRule m3_BadRule m5_BadRule "ValueError.__new__"))
  (sa_BadRule : PySem.W.findIn K (.ref C_BadRule) "__setattr__" = some (some (.builtin "object.__setattr__")))
  (ga_BadRule : PySem.W.findIn K (.ref C_BadRule) "__getattribute__" = some (some (.builtin "BaseException.__getattribute__")))
  (gg_BadRule : PySem.W.findIn K (.ref C_BadRule) "__getattr__" = some none)
  (hd_BadRule : PySem.W.hasDictIn K C_BadRule = true)
  (y_BadRule : PySem.W.typeIn K (.ref f_BadRuleu_initu) = some (.type "function"))
  (n_BadRule_what : PySem.W.findIn K (.ref C_BadRule) "what" = some none)
  (k_BadRaise : PySem.W.keepIn K (.ref C_BadRaise) = true)
  (b_BadRaise : PySem.W.subIn K (.ref C_BadRaise) (.type "BaseException") = some true)
  (t_BadRaise : PySem.W.typeIn K (.ref C_BadRaise) = some (.type "type"))
  (i_BadRaise : PySem.W.isClsIn K C_BadRaise = true)
  (s_BadRaise : PySem.W.subIn K (.ref C_BadRaise) (.ref C_BadRaise) = some true)
  (x_BadRaise : PySem.W.excIn K C_BadRaise [.type "ValueError", .type "Exception", .type "BaseException", .type "object"] "ValueError.__new__" = true)
  (kp_Rule : PySem.W.keepIn K (.ref C_Rule) = true)
  (pg_Rule : PySem.W.plainGet K C_Rule Str.empty = true)
  (hd_Rule : PySem.W.hasDictIn K C_Rule = true)
  (po_Rule : PySem.W.plainOver K C_Rule = true)
  (sa_Rule : PySem.W.findIn K (.ref C_Rule) "__setattr__" = some (some (.builtin "object.__setattr__")))
  (mk_Rule : PySem.W.makesIn K C_Rule = true)
  (fn_Ruleu_initu : PySem.W.isFn K (.ref f_Ruleu_initu) = true)
  (fn_Ruleu_equ : PySem.W.isFn K (.ref f_Ruleu_equ) = true)
  (fn_Rule_raised : PySem.W.isFn K (.ref f_Rule_raised) = true)
  (n_Rule_word : PySem.W.findIn K (.ref C_Rule) "word" = some none)
  (n_Rule_tests : PySem.W.findIn K (.ref C_Rule) "tests" = some none)
  (n_Rule_own : PySem.W.findIn K (.ref C_Rule) "own" = some none)
  (n_Rule_other : PySem.W.findIn K (.ref C_Rule) "other" = some none)
  (n_Rule_foe : PySem.W.findIn K (.ref C_Rule) "foe" = some none)
  (n_Rule_low : PySem.W.findIn K (.ref C_Rule) "low" = some none)
  (n_Rule_high : PySem.W.findIn K (.ref C_Rule) "high" = some none)
  (n_Rule_side : PySem.W.findIn K (.ref C_Rule) "side" = some none)
  (z_ValueError : PySem.W.nsIn K mainGlobals "ValueError" = some none)
  (z_abs : PySem.W.nsIn K mainGlobals "abs" = some none)
  (z_all : PySem.W.nsIn K mainGlobals "all" = some none)
  (z_any : PySem.W.nsIn K mainGlobals "any" = some none)
  (z_bool : PySem.W.nsIn K mainGlobals "bool" = some none)
  (z_enumerate : PySem.W.nsIn K mainGlobals "enumerate" = some none)
  (z_int : PySem.W.nsIn K mainGlobals "int" = some none)
  (z_isinstance : PySem.W.nsIn K mainGlobals "isinstance" = some none)
  (z_len : PySem.W.nsIn K mainGlobals "len" = some none)
  (z_list : PySem.W.nsIn K mainGlobals "list" = some none)
  (z_max : PySem.W.nsIn K mainGlobals "max" = some none)
  (z_min : PySem.W.nsIn K mainGlobals "min" = some none)
  (z_range : PySem.W.nsIn K mainGlobals "range" = some none)
  (z_str : PySem.W.nsIn K mainGlobals "str" = some none)
  (z_tuple : PySem.W.nsIn K mainGlobals "tuple" = some none)
  (z_zip : PySem.W.nsIn K mainGlobals "zip" = some none)
  (c_EAST : PySem.W.nsIn K mainGlobals "EAST" = some (some (.int (0) t_EAST)))
  (c_WEST : PySem.W.nsIn K mainGlobals "WEST" = some (some (.int (1) t_WEST)))
  (c_LADDER_MOST : PySem.W.nsIn K mainGlobals "LADDER_MOST" = some (some (.int (6) t_LADDER_MOST)))
  (c_LETTERS_MOST : PySem.W.nsIn K mainGlobals "LETTERS_MOST" = some (some (.int (8) t_LETTERS_MOST)))
  (c_NUMBER_MOST : PySem.W.nsIn K mainGlobals "NUMBER_MOST" = some (some (.int (40) t_NUMBER_MOST)))
  (c_NONE : PySem.W.nsIn K mainGlobals "NONE" = some (some (.str "none" t_NONE)))
  (c_TESTS_MOST : PySem.W.nsIn K mainGlobals "TESTS_MOST" = some (some (.int (4) t_TESTS_MOST)))
  (zz_i_Rule_ca : PySem.W.findIn K (.ref C_Rule) "__class__" = some (some (.builtin "object.__class__")))
  (zz_i_Rule_cn : PySem.W.specialIn K (.builtin "object.__class__") "__get__" = some (some (.builtin "getset_descriptor.__get__")))
  (zz_i_Rule_ct : PySem.W.takesIn K (.builtin "object.__class__") = some true)
  (zz_i_Rule_cm : PySem.W.mroIn K C_Rule (.type "object") = some true)
  (zz_i_Rule_kt : PySem.W.kitOne K (.type "tuple") (.ref C_Rule) = some false)
  (zz_i_Rule_nt : PySem.W.notFirst K C_Rule (.type "tuple") = true)
  (zz_i_Rule_ne : PySem.W.findIn K (.ref C_Rule) "__ne__" = some (some (.builtin "object.__ne__")))
  (zz_i_BadRule_ga : PySem.W.findIn K (.ref C_BadRule) "__getattribute__" = some (some (.builtin "BaseException.__getattribute__")))
  (zz_i_BadRule_gg : PySem.W.findIn K (.ref C_BadRule) "__getattr__" = some none)
  (zz_i_BadRule_xca : PySem.W.findIn K (.ref C_BadRule) "__class__" = some (some (.builtin "object.__class__")))
  (zz_i_BadRule_mr : PySem.W.mroIn K C_BadRule (.type "object") = some true)
  (zz_i_BadRule_xc : PySem.W.kitOne K (.ref C_BadRule) (.ref C_CallError) = some true)
  (zz_i_BadRaise_ga : PySem.W.findIn K (.ref C_BadRaise) "__getattribute__" = some (some (.builtin "BaseException.__getattribute__")))
  (zz_i_BadRaise_gg : PySem.W.findIn K (.ref C_BadRaise) "__getattr__" = some none)
  (zz_i_BadRaise_xca : PySem.W.findIn K (.ref C_BadRaise) "__class__" = some (some (.builtin "object.__class__")))
  (zz_i_BadRaise_mr : PySem.W.mroIn K C_BadRaise (.type "object") = some true)
  (zz_i_BadRaise_xc : PySem.W.kitOne K (.ref C_BadRaise) (.ref C_CallError) = some true) :
    ∃ fd : FuncData, (∀ (s : Shared) (v : Value), BindsTo s fd ⟨[v], []⟩ [("_law_script", v)]) ∧ ∀ base : Heap, K.In base → base.Ns mainGlobals mg → FnOk P w K mg base CX0 10 fa fd ["_law_script"] (sp_law K) := by
  have e : f_law = fa := Value.ref.inj (Option.some.inj ((PySem.W.mg_of X G a_law).symm.trans hfa))
  subst e
  have F_BadRuleu_initu := fun_mk (st := s_BadRuleu_initu) l_BadRuleu_initu c_BadRuleu_initu k_BadRuleu_initu
  have F_is_whole : FunD K "is_whole" "is_whole" (defArgs s_is_whole) (defBody s_is_whole) (defScope s_is_whole) [.non, .non] [] f_is_whole (PySem.W.fnOf "is_whole" "is_whole" (defArgs s_is_whole) (defBody s_is_whole) (defScope s_is_whole) (.ref q_is_whole) kV_is_whole dc_is_whole pm_is_whole an_is_whole cd_is_whole ct_is_whole) := ⟨⟨oc_is_whole, od_is_whole, _, kV_is_whole, dc_is_whole, pm_is_whole, an_is_whole, cd_is_whole, ct_is_whole, sl_is_whole, rfl, l_is_whole, c_is_whole, .inr ⟨by simp, q_is_whole, _, [Value.none, Value.none], qn_is_whole, rfl, t_is_whole, rfl, (.cons rfl (.cons rfl .nil))⟩, .inl rfl⟩, k_is_whole⟩
  have F_is_sequence := fun_mk (st := s_is_sequence) l_is_sequence c_is_sequence k_is_sequence
  have F_is_name := fun_mk (st := s_is_name) l_is_name c_is_name k_is_name
  have F_is_test := fun_mk (st := s_is_test) l_is_test c_is_test k_is_test
  have F_are_tests := fun_mk (st := s_are_tests) l_are_tests c_are_tests k_are_tests
  have F_is_condition := fun_mk (st := s_is_condition) l_is_condition c_is_condition k_is_condition
  have F_words_fault := fun_mk (st := s_words_fault) l_words_fault c_words_fault k_words_fault
  have F_bounds_fault := fun_mk (st := s_bounds_fault) l_bounds_fault c_bounds_fault k_bounds_fault
  have F_raised_number := fun_mk (st := s_raised_number) l_raised_number c_raised_number k_raised_number
  have F_Ruleu_initu : FunD K "__init__" "Rule.__init__" (defArgs s_Ruleu_initu) (defBody s_Ruleu_initu) (defScope s_Ruleu_initu) [(.ref w0_Ruleu_initu), .non, .non, .non, (.int 0), .non, .non] [] f_Ruleu_initu (PySem.W.fnOf "__init__" "Rule.__init__" (defArgs s_Ruleu_initu) (defBody s_Ruleu_initu) (defScope s_Ruleu_initu) (.ref q_Ruleu_initu) kV_Ruleu_initu dc_Ruleu_initu pm_Ruleu_initu an_Ruleu_initu cd_Ruleu_initu ct_Ruleu_initu) := ⟨⟨oc_Ruleu_initu, od_Ruleu_initu, _, kV_Ruleu_initu, dc_Ruleu_initu, pm_Ruleu_initu, an_Ruleu_initu, cd_Ruleu_initu, ct_Ruleu_initu, sl_Ruleu_initu, rfl, l_Ruleu_initu, c_Ruleu_initu, .inr ⟨by simp, q_Ruleu_initu, _, [Value.ref w0_Ruleu_initu, Value.none, Value.none, Value.none, Value.int (0) qt4_Ruleu_initu, Value.none, Value.none], qn_Ruleu_initu, rfl, t_Ruleu_initu, rfl, (.cons rfl (.cons rfl (.cons rfl (.cons rfl (.cons ⟨_, rfl⟩ (.cons rfl (.cons rfl .nil)))))))⟩, .inl rfl⟩, k_Ruleu_initu⟩
  have F_Ruleu_equ := fun_mk (st := s_Ruleu_equ) l_Ruleu_equ c_Ruleu_equ k_Ruleu_equ
  have F_Rule_raised := fun_mk (st := s_Rule_raised) l_Rule_raised c_Rule_raised k_Rule_raised
  have F_Lmix := fun_mk (st := s_Lmix) l_Lmix c_Lmix k_Lmix
  have F_Lhand := fun_mk (st := s_Lhand) l_Lhand c_Lhand k_Lhand
  have F_Ldraw := fun_mk (st := s_Ldraw) l_Ldraw c_Ldraw k_Ldraw
  have F_Lwhole := fun_mk (st := s_Lwhole) l_Lwhole c_Lwhole k_Lwhole
  have F_Lpick := fun_mk (st := s_Lpick) l_Lpick c_Lpick k_Lpick
  have F_Lshape := fun_mk (st := s_Lshape) l_Lshape c_Lshape k_Lshape
  have F_Ldeep := fun_mk (st := s_Ldeep) l_Ldeep c_Ldeep k_Ldeep
  have F_Lsame := fun_mk (st := s_Lsame) l_Lsame c_Lsame k_Lsame
  have F_Lnames := fun_mk (st := s_Lnames) l_Lnames c_Lnames k_Lnames
  have F_Ltests := fun_mk (st := s_Ltests) l_Ltests c_Ltests k_Ltests
  have F_Lasked := fun_mk (st := s_Lasked) l_Lasked c_Lasked k_Lasked
  have F_Lrule := fun_mk (st := s_Lrule) l_Lrule c_Lrule k_Lrule
  have F_Lmade := fun_mk (st := s_Lmade) l_Lmade c_Lmade k_Lmade
  have F_Lis_rule := fun_mk (st := s_Lis_rule) l_Lis_rule c_Lis_rule k_Lis_rule
  have F_Lup := fun_mk (st := s_Lup) l_Lup c_Lup k_Lup
  have F_Lraised := fun_mk (st := s_Lraised) l_Lraised c_Lraised k_Lraised
  have F_Lodd := fun_mk (st := s_Lodd) l_Lodd c_Lodd k_Lodd
  have F_Ltries := fun_mk (st := s_Ltries) l_Ltries c_Ltries k_Ltries
  have F_Llabels := fun_mk (st := s_Llabels) l_Llabels c_Llabels k_Llabels
  have F_Lrefused := fun_mk (st := s_Lrefused) l_Lrefused c_Lrefused k_Lrefused
  have F_Lother := fun_mk (st := s_Lother) l_Lother c_Lother k_Lother
  have F_Lequal := fun_mk (st := s_Lequal) l_Lequal c_Lequal k_Lequal
  have F_Lleft_out := fun_mk (st := s_Lleft_out) l_Lleft_out c_Lleft_out k_Lleft_out
  have F_Lraise := fun_mk (st := s_Lraise) l_Lraise c_Lraise k_Lraise
  have F_Lraises := fun_mk (st := s_Lraises) l_Lraises c_Lraises k_Lraises
  have F_law := fun_mk (st := s_law) l_law c_law k_law
  let T : Tx := {
    f_BadRuleu_initu := f_BadRuleu_initu,
    d_BadRuleu_initu := PySem.W.fnOf "__init__" "BadRule.__init__" (defArgs s_BadRuleu_initu) (defBody s_BadRuleu_initu) (defScope s_BadRuleu_initu) .none kV_BadRuleu_initu dc_BadRuleu_initu pm_BadRuleu_initu an_BadRuleu_initu cd_BadRuleu_initu ct_BadRuleu_initu,
    f_is_whole := f_is_whole,
    d_is_whole := PySem.W.fnOf "is_whole" "is_whole" (defArgs s_is_whole) (defBody s_is_whole) (defScope s_is_whole) (.ref q_is_whole) kV_is_whole dc_is_whole pm_is_whole an_is_whole cd_is_whole ct_is_whole,
    e1_is_whole := [Value.none],
    e2_is_whole := [Value.none, Value.none],
    f_is_sequence := f_is_sequence,
    d_is_sequence := PySem.W.fnOf "is_sequence" "is_sequence" (defArgs s_is_sequence) (defBody s_is_sequence) (defScope s_is_sequence) .none kV_is_sequence dc_is_sequence pm_is_sequence an_is_sequence cd_is_sequence ct_is_sequence,
    f_is_name := f_is_name,
    d_is_name := PySem.W.fnOf "is_name" "is_name" (defArgs s_is_name) (defBody s_is_name) (defScope s_is_name) .none kV_is_name dc_is_name pm_is_name an_is_name cd_is_name ct_is_name,
    f_is_test := f_is_test,
    d_is_test := PySem.W.fnOf "is_test" "is_test" (defArgs s_is_test) (defBody s_is_test) (defScope s_is_test) .none kV_is_test dc_is_test pm_is_test an_is_test cd_is_test ct_is_test,
    f_are_tests := f_are_tests,
    d_are_tests := PySem.W.fnOf "are_tests" "are_tests" (defArgs s_are_tests) (defBody s_are_tests) (defScope s_are_tests) .none kV_are_tests dc_are_tests pm_are_tests an_are_tests cd_are_tests ct_are_tests,
    f_is_condition := f_is_condition,
    d_is_condition := PySem.W.fnOf "is_condition" "is_condition" (defArgs s_is_condition) (defBody s_is_condition) (defScope s_is_condition) .none kV_is_condition dc_is_condition pm_is_condition an_is_condition cd_is_condition ct_is_condition,
    f_words_fault := f_words_fault,
    d_words_fault := PySem.W.fnOf "words_fault" "words_fault" (defArgs s_words_fault) (defBody s_words_fault) (defScope s_words_fault) .none kV_words_fault dc_words_fault pm_words_fault an_words_fault cd_words_fault ct_words_fault,
    f_bounds_fault := f_bounds_fault,
    d_bounds_fault := PySem.W.fnOf "bounds_fault" "bounds_fault" (defArgs s_bounds_fault) (defBody s_bounds_fault) (defScope s_bounds_fault) .none kV_bounds_fault dc_bounds_fault pm_bounds_fault an_bounds_fault cd_bounds_fault ct_bounds_fault,
    f_raised_number := f_raised_number,
    d_raised_number := PySem.W.fnOf "raised_number" "raised_number" (defArgs s_raised_number) (defBody s_raised_number) (defScope s_raised_number) .none kV_raised_number dc_raised_number pm_raised_number an_raised_number cd_raised_number ct_raised_number,
    f_Ruleu_initu := f_Ruleu_initu,
    d_Ruleu_initu := PySem.W.fnOf "__init__" "Rule.__init__" (defArgs s_Ruleu_initu) (defBody s_Ruleu_initu) (defScope s_Ruleu_initu) (.ref q_Ruleu_initu) kV_Ruleu_initu dc_Ruleu_initu pm_Ruleu_initu an_Ruleu_initu cd_Ruleu_initu ct_Ruleu_initu,
    w0_Ruleu_initu := w0_Ruleu_initu,
    e1_Ruleu_initu := [Value.none],
    e2_Ruleu_initu := [Value.none, Value.none],
    e3_Ruleu_initu := [Value.int (0) qt4_Ruleu_initu, Value.none, Value.none],
    e4_Ruleu_initu := [Value.none, Value.int (0) qt4_Ruleu_initu, Value.none, Value.none],
    e5_Ruleu_initu := [Value.none, Value.none, Value.int (0) qt4_Ruleu_initu, Value.none, Value.none],
    e6_Ruleu_initu := [Value.none, Value.none, Value.none, Value.int (0) qt4_Ruleu_initu, Value.none, Value.none],
    e7_Ruleu_initu := [Value.ref w0_Ruleu_initu, Value.none, Value.none, Value.none, Value.int (0) qt4_Ruleu_initu, Value.none, Value.none],
    f_Ruleu_equ := f_Ruleu_equ,
    d_Ruleu_equ := PySem.W.fnOf "__eq__" "Rule.__eq__" (defArgs s_Ruleu_equ) (defBody s_Ruleu_equ) (defScope s_Ruleu_equ) .none kV_Ruleu_equ dc_Ruleu_equ pm_Ruleu_equ an_Ruleu_equ cd_Ruleu_equ ct_Ruleu_equ,
    f_Rule_raised := f_Rule_raised,
    d_Rule_raised := PySem.W.fnOf "raised" "Rule.raised" (defArgs s_Rule_raised) (defBody s_Rule_raised) (defScope s_Rule_raised) .none kV_Rule_raised dc_Rule_raised pm_Rule_raised an_Rule_raised cd_Rule_raised ct_Rule_raised,
    f_Lmix := f_Lmix,
    d_Lmix := PySem.W.fnOf "_law_mix" "_law_mix" (defArgs s_Lmix) (defBody s_Lmix) (defScope s_Lmix) .none kV_Lmix dc_Lmix pm_Lmix an_Lmix cd_Lmix ct_Lmix,
    f_Lhand := f_Lhand,
    d_Lhand := PySem.W.fnOf "_law_hand" "_law_hand" (defArgs s_Lhand) (defBody s_Lhand) (defScope s_Lhand) .none kV_Lhand dc_Lhand pm_Lhand an_Lhand cd_Lhand ct_Lhand,
    f_Ldraw := f_Ldraw,
    d_Ldraw := PySem.W.fnOf "_law_draw" "_law_draw" (defArgs s_Ldraw) (defBody s_Ldraw) (defScope s_Ldraw) .none kV_Ldraw dc_Ldraw pm_Ldraw an_Ldraw cd_Ldraw ct_Ldraw,
    f_Lwhole := f_Lwhole,
    d_Lwhole := PySem.W.fnOf "_law_whole" "_law_whole" (defArgs s_Lwhole) (defBody s_Lwhole) (defScope s_Lwhole) .none kV_Lwhole dc_Lwhole pm_Lwhole an_Lwhole cd_Lwhole ct_Lwhole,
    f_Lpick := f_Lpick,
    d_Lpick := PySem.W.fnOf "_law_pick" "_law_pick" (defArgs s_Lpick) (defBody s_Lpick) (defScope s_Lpick) .none kV_Lpick dc_Lpick pm_Lpick an_Lpick cd_Lpick ct_Lpick,
    f_Lshape := f_Lshape,
    d_Lshape := PySem.W.fnOf "_law_shape" "_law_shape" (defArgs s_Lshape) (defBody s_Lshape) (defScope s_Lshape) .none kV_Lshape dc_Lshape pm_Lshape an_Lshape cd_Lshape ct_Lshape,
    f_Ldeep := f_Ldeep,
    d_Ldeep := PySem.W.fnOf "_law_deep" "_law_deep" (defArgs s_Ldeep) (defBody s_Ldeep) (defScope s_Ldeep) .none kV_Ldeep dc_Ldeep pm_Ldeep an_Ldeep cd_Ldeep ct_Ldeep,
    f_Lsame := f_Lsame,
    d_Lsame := PySem.W.fnOf "_law_same" "_law_same" (defArgs s_Lsame) (defBody s_Lsame) (defScope s_Lsame) .none kV_Lsame dc_Lsame pm_Lsame an_Lsame cd_Lsame ct_Lsame,
    f_Lnames := f_Lnames,
    d_Lnames := PySem.W.fnOf "_law_names" "_law_names" (defArgs s_Lnames) (defBody s_Lnames) (defScope s_Lnames) .none kV_Lnames dc_Lnames pm_Lnames an_Lnames cd_Lnames ct_Lnames,
    f_Ltests := f_Ltests,
    d_Ltests := PySem.W.fnOf "_law_tests" "_law_tests" (defArgs s_Ltests) (defBody s_Ltests) (defScope s_Ltests) .none kV_Ltests dc_Ltests pm_Ltests an_Ltests cd_Ltests ct_Ltests,
    f_Lasked := f_Lasked,
    d_Lasked := PySem.W.fnOf "_law_asked" "_law_asked" (defArgs s_Lasked) (defBody s_Lasked) (defScope s_Lasked) .none kV_Lasked dc_Lasked pm_Lasked an_Lasked cd_Lasked ct_Lasked,
    f_Lrule := f_Lrule,
    d_Lrule := PySem.W.fnOf "_law_rule" "_law_rule" (defArgs s_Lrule) (defBody s_Lrule) (defScope s_Lrule) .none kV_Lrule dc_Lrule pm_Lrule an_Lrule cd_Lrule ct_Lrule,
    f_Lmade := f_Lmade,
    d_Lmade := PySem.W.fnOf "_law_made" "_law_made" (defArgs s_Lmade) (defBody s_Lmade) (defScope s_Lmade) .none kV_Lmade dc_Lmade pm_Lmade an_Lmade cd_Lmade ct_Lmade,
    f_Lis_rule := f_Lis_rule,
    d_Lis_rule := PySem.W.fnOf "_law_is_rule" "_law_is_rule" (defArgs s_Lis_rule) (defBody s_Lis_rule) (defScope s_Lis_rule) .none kV_Lis_rule dc_Lis_rule pm_Lis_rule an_Lis_rule cd_Lis_rule ct_Lis_rule,
    f_Lup := f_Lup,
    d_Lup := PySem.W.fnOf "_law_up" "_law_up" (defArgs s_Lup) (defBody s_Lup) (defScope s_Lup) .none kV_Lup dc_Lup pm_Lup an_Lup cd_Lup ct_Lup,
    f_Lraised := f_Lraised,
    d_Lraised := PySem.W.fnOf "_law_raised" "_law_raised" (defArgs s_Lraised) (defBody s_Lraised) (defScope s_Lraised) .none kV_Lraised dc_Lraised pm_Lraised an_Lraised cd_Lraised ct_Lraised,
    f_Lodd := f_Lodd,
    d_Lodd := PySem.W.fnOf "_law_odd" "_law_odd" (defArgs s_Lodd) (defBody s_Lodd) (defScope s_Lodd) .none kV_Lodd dc_Lodd pm_Lodd an_Lodd cd_Lodd ct_Lodd,
    f_Ltries := f_Ltries,
    d_Ltries := PySem.W.fnOf "_law_tries" "_law_tries" (defArgs s_Ltries) (defBody s_Ltries) (defScope s_Ltries) .none kV_Ltries dc_Ltries pm_Ltries an_Ltries cd_Ltries ct_Ltries,
    f_Llabels := f_Llabels,
    d_Llabels := PySem.W.fnOf "_law_labels" "_law_labels" (defArgs s_Llabels) (defBody s_Llabels) (defScope s_Llabels) .none kV_Llabels dc_Llabels pm_Llabels an_Llabels cd_Llabels ct_Llabels,
    f_Lrefused := f_Lrefused,
    d_Lrefused := PySem.W.fnOf "_law_refused" "_law_refused" (defArgs s_Lrefused) (defBody s_Lrefused) (defScope s_Lrefused) .none kV_Lrefused dc_Lrefused pm_Lrefused an_Lrefused cd_Lrefused ct_Lrefused,
    f_Lother := f_Lother,
    d_Lother := PySem.W.fnOf "_law_other" "_law_other" (defArgs s_Lother) (defBody s_Lother) (defScope s_Lother) .none kV_Lother dc_Lother pm_Lother an_Lother cd_Lother ct_Lother,
    f_Lequal := f_Lequal,
    d_Lequal := PySem.W.fnOf "_law_equal" "_law_equal" (defArgs s_Lequal) (defBody s_Lequal) (defScope s_Lequal) .none kV_Lequal dc_Lequal pm_Lequal an_Lequal cd_Lequal ct_Lequal,
    f_Lleft_out := f_Lleft_out,
    d_Lleft_out := PySem.W.fnOf "_law_left_out" "_law_left_out" (defArgs s_Lleft_out) (defBody s_Lleft_out) (defScope s_Lleft_out) .none kV_Lleft_out dc_Lleft_out pm_Lleft_out an_Lleft_out cd_Lleft_out ct_Lleft_out,
    f_Lraise := f_Lraise,
    d_Lraise := PySem.W.fnOf "_law_raise" "_law_raise" (defArgs s_Lraise) (defBody s_Lraise) (defScope s_Lraise) .none kV_Lraise dc_Lraise pm_Lraise an_Lraise cd_Lraise ct_Lraise,
    f_Lraises := f_Lraises,
    d_Lraises := PySem.W.fnOf "_law_raises" "_law_raises" (defArgs s_Lraises) (defBody s_Lraises) (defScope s_Lraises) .none kV_Lraises dc_Lraises pm_Lraises an_Lraises cd_Lraises ct_Lraises,
    f_law := f_law,
    d_law := PySem.W.fnOf "law" "law" (defArgs s_law) (defBody s_law) (defScope s_law) .none kV_law dc_law pm_law an_law cd_law ct_law,
    C_CallError := C_CallError,
    C_BadRule := C_BadRule,
    C_BadRaise := C_BadRaise,
    C_Rule := C_Rule,
    t_EAST := t_EAST,
    t_WEST := t_WEST,
    t_LADDER_MOST := t_LADDER_MOST,
    t_LETTERS_MOST := t_LETTERS_MOST,
    t_NUMBER_MOST := t_NUMBER_MOST,
    t_NONE := t_NONE,
    t_TESTS_MOST := t_TESTS_MOST }
  have O : Ok K mg T := {
    F_BadRuleu_initu := F_BadRuleu_initu,
    b_BadRuleu_initu := F_BadRuleu_initu.binds (ps := ["self", "what"]) fun _ _ _ _ _ _ us hl => match us, hl with | [_, _], _ => rfl,
    F_is_whole := F_is_whole,
    b_is_whole := Jv.bindsD (K := K) (T := q_is_whole) (m := 3) t_is_whole rfl rfl fun us hl => match us, hl with | [_, _, _], _ => ⟨_, rfl, rfl⟩,
    b1_is_whole := ⟨(.cons rfl .nil), Jv.bindsD (K := K) (T := q_is_whole) (m := 2) t_is_whole rfl rfl fun us hl => match us, hl with | [_, _], _ => ⟨_, rfl, rfl⟩⟩,
    b2_is_whole := ⟨(.cons rfl (.cons rfl .nil)), Jv.bindsD (K := K) (T := q_is_whole) (m := 1) t_is_whole rfl rfl fun us hl => match us, hl with | [_], _ => ⟨_, rfl, rfl⟩⟩,
    m_is_whole := PySem.W.mg_of X G a_is_whole,
    F_is_sequence := F_is_sequence,
    b_is_sequence := F_is_sequence.binds (ps := ["thing"]) fun _ _ _ _ _ _ us hl => match us, hl with | [_], _ => rfl,
    m_is_sequence := PySem.W.mg_of X G a_is_sequence,
    F_is_name := F_is_name,
    b_is_name := F_is_name.binds (ps := ["thing"]) fun _ _ _ _ _ _ us hl => match us, hl with | [_], _ => rfl,
    m_is_name := PySem.W.mg_of X G a_is_name,
    F_is_test := F_is_test,
    b_is_test := F_is_test.binds (ps := ["thing"]) fun _ _ _ _ _ _ us hl => match us, hl with | [_], _ => rfl,
    m_is_test := PySem.W.mg_of X G a_is_test,
    F_are_tests := F_are_tests,
    b_are_tests := F_are_tests.binds (ps := ["thing"]) fun _ _ _ _ _ _ us hl => match us, hl with | [_], _ => rfl,
    m_are_tests := PySem.W.mg_of X G a_are_tests,
    F_is_condition := F_is_condition,
    b_is_condition := F_is_condition.binds (ps := ["thing"]) fun _ _ _ _ _ _ us hl => match us, hl with | [_], _ => rfl,
    m_is_condition := PySem.W.mg_of X G a_is_condition,
    F_words_fault := F_words_fault,
    b_words_fault := F_words_fault.binds (ps := ["word", "tests", "own", "other", "foe"]) fun _ _ _ _ _ _ us hl => match us, hl with | [_, _, _, _, _], _ => rfl,
    m_words_fault := PySem.W.mg_of X G a_words_fault,
    F_bounds_fault := F_bounds_fault,
    b_bounds_fault := F_bounds_fault.binds (ps := ["low", "high", "side"]) fun _ _ _ _ _ _ us hl => match us, hl with | [_, _, _], _ => rfl,
    m_bounds_fault := PySem.W.mg_of X G a_bounds_fault,
    F_raised_number := F_raised_number,
    b_raised_number := F_raised_number.binds (ps := ["thing", "by"]) fun _ _ _ _ _ _ us hl => match us, hl with | [_, _], _ => rfl,
    m_raised_number := PySem.W.mg_of X G a_raised_number,
    y0_Ruleu_initu := fun _ => .inr ⟨_, _, _, w0_Ruleu_initu_, rfl, rfl, Nat.le_of_ble_eq_true rfl, .nil⟩,
    F_Ruleu_initu := F_Ruleu_initu,
    b_Ruleu_initu := Jv.bindsD (K := K) (T := q_Ruleu_initu) (m := 9) t_Ruleu_initu rfl rfl fun us hl => match us, hl with | [_, _, _, _, _, _, _, _, _], _ => ⟨_, rfl, rfl⟩,
    b1_Ruleu_initu := ⟨(.cons rfl .nil), Jv.bindsD (K := K) (T := q_Ruleu_initu) (m := 8) t_Ruleu_initu rfl rfl fun us hl => match us, hl with | [_, _, _, _, _, _, _, _], _ => ⟨_, rfl, rfl⟩⟩,
    b2_Ruleu_initu := ⟨(.cons rfl (.cons rfl .nil)), Jv.bindsD (K := K) (T := q_Ruleu_initu) (m := 7) t_Ruleu_initu rfl rfl fun us hl => match us, hl with | [_, _, _, _, _, _, _], _ => ⟨_, rfl, rfl⟩⟩,
    b3_Ruleu_initu := ⟨(.cons ⟨_, rfl⟩ (.cons rfl (.cons rfl .nil))), Jv.bindsD (K := K) (T := q_Ruleu_initu) (m := 6) t_Ruleu_initu rfl rfl fun us hl => match us, hl with | [_, _, _, _, _, _], _ => ⟨_, rfl, rfl⟩⟩,
    b4_Ruleu_initu := ⟨(.cons rfl (.cons ⟨_, rfl⟩ (.cons rfl (.cons rfl .nil)))), Jv.bindsD (K := K) (T := q_Ruleu_initu) (m := 5) t_Ruleu_initu rfl rfl fun us hl => match us, hl with | [_, _, _, _, _], _ => ⟨_, rfl, rfl⟩⟩,
    b5_Ruleu_initu := ⟨(.cons rfl (.cons rfl (.cons ⟨_, rfl⟩ (.cons rfl (.cons rfl .nil))))), Jv.bindsD (K := K) (T := q_Ruleu_initu) (m := 4) t_Ruleu_initu rfl rfl fun us hl => match us, hl with | [_, _, _, _], _ => ⟨_, rfl, rfl⟩⟩,
    b6_Ruleu_initu := ⟨(.cons rfl (.cons rfl (.cons rfl (.cons ⟨_, rfl⟩ (.cons rfl (.cons rfl .nil)))))), Jv.bindsD (K := K) (T := q_Ruleu_initu) (m := 3) t_Ruleu_initu rfl rfl fun us hl => match us, hl with | [_, _, _], _ => ⟨_, rfl, rfl⟩⟩,
    b7_Ruleu_initu := ⟨(.cons rfl (.cons rfl (.cons rfl (.cons rfl (.cons ⟨_, rfl⟩ (.cons rfl (.cons rfl .nil))))))), Jv.bindsD (K := K) (T := q_Ruleu_initu) (m := 2) t_Ruleu_initu rfl rfl fun us hl => match us, hl with | [_, _], _ => ⟨_, rfl, rfl⟩⟩,
    F_Ruleu_equ := F_Ruleu_equ,
    b_Ruleu_equ := F_Ruleu_equ.binds (ps := ["self", "other"]) fun _ _ _ _ _ _ us hl => match us, hl with | [_, _], _ => rfl,
    F_Rule_raised := F_Rule_raised,
    b_Rule_raised := F_Rule_raised.binds (ps := ["self", "by"]) fun _ _ _ _ _ _ us hl => match us, hl with | [_, _], _ => rfl,
    F_Lmix := F_Lmix,
    b_Lmix := F_Lmix.binds (ps := ["_law_number", "_law_turn"]) fun _ _ _ _ _ _ us hl => match us, hl with | [_, _], _ => rfl,
    m_Lmix := PySem.W.mg_of X G a_Lmix,
    F_Lhand := F_Lhand,
    b_Lhand := F_Lhand.binds (ps := ["_law_script"]) fun _ _ _ _ _ _ us hl => match us, hl with | [_], _ => rfl,
    m_Lhand := PySem.W.mg_of X G a_Lhand,
    F_Ldraw := F_Ldraw,
    b_Ldraw := F_Ldraw.binds (ps := ["_law_hand_here", "_law_many"]) fun _ _ _ _ _ _ us hl => match us, hl with | [_, _], _ => rfl,
    m_Ldraw := PySem.W.mg_of X G a_Ldraw,
    F_Lwhole := F_Lwhole,
    b_Lwhole := F_Lwhole.binds (ps := ["_law_thing"]) fun _ _ _ _ _ _ us hl => match us, hl with | [_], _ => rfl,
    m_Lwhole := PySem.W.mg_of X G a_Lwhole,
    F_Lpick := F_Lpick,
    b_Lpick := F_Lpick.binds (ps := ["_law_hand_here", "_law_things"]) fun _ _ _ _ _ _ us hl => match us, hl with | [_, _], _ => rfl,
    m_Lpick := PySem.W.mg_of X G a_Lpick,
    F_Lshape := F_Lshape,
    b_Lshape := F_Lshape.binds (ps := ["_law_hand_here", "_law_row"]) fun _ _ _ _ _ _ us hl => match us, hl with | [_, _], _ => rfl,
    m_Lshape := PySem.W.mg_of X G a_Lshape,
    F_Ldeep := F_Ldeep,
    b_Ldeep := F_Ldeep.binds (ps := ["_law_hand_here", "_law_rows"]) fun _ _ _ _ _ _ us hl => match us, hl with | [_, _], _ => rfl,
    m_Ldeep := PySem.W.mg_of X G a_Ldeep,
    F_Lsame := F_Lsame,
    b_Lsame := F_Lsame.binds (ps := ["_law_answer", "_law_due"]) fun _ _ _ _ _ _ us hl => match us, hl with | [_, _], _ => rfl,
    m_Lsame := PySem.W.mg_of X G a_Lsame,
    F_Lnames := F_Lnames,
    b_Lnames := F_Lnames.binds (ps := ["_law_hand_here"]) fun _ _ _ _ _ _ us hl => match us, hl with | [_], _ => rfl,
    m_Lnames := PySem.W.mg_of X G a_Lnames,
    F_Ltests := F_Ltests,
    b_Ltests := F_Ltests.binds (ps := ["_law_hand_here", "_law_names_here"]) fun _ _ _ _ _ _ us hl => match us, hl with | [_, _], _ => rfl,
    m_Ltests := PySem.W.mg_of X G a_Ltests,
    F_Lasked := F_Lasked,
    b_Lasked := F_Lasked.binds (ps := ["_law_hand_here", "_law_ladder"]) fun _ _ _ _ _ _ us hl => match us, hl with | [_, _], _ => rfl,
    m_Lasked := PySem.W.mg_of X G a_Lasked,
    F_Lrule := F_Lrule,
    b_Lrule := F_Lrule.binds (ps := ["_law_hand_here", "_law_names_here", "_law_ladder", "_law_guarded"]) fun _ _ _ _ _ _ us hl => match us, hl with | [_, _, _, _], _ => rfl,
    m_Lrule := PySem.W.mg_of X G a_Lrule,
    F_Lmade := F_Lmade,
    b_Lmade := F_Lmade.binds (ps := ["_law_hand_here", "_law_rule_here"]) fun _ _ _ _ _ _ us hl => match us, hl with | [_, _], _ => rfl,
    m_Lmade := PySem.W.mg_of X G a_Lmade,
    F_Lis_rule := F_Lis_rule,
    b_Lis_rule := F_Lis_rule.binds (ps := ["_law_told", "_law_rule_here"]) fun _ _ _ _ _ _ us hl => match us, hl with | [_, _], _ => rfl,
    m_Lis_rule := PySem.W.mg_of X G a_Lis_rule,
    F_Lup := F_Lup,
    b_Lup := F_Lup.binds (ps := ["_law_word", "_law_by"]) fun _ _ _ _ _ _ us hl => match us, hl with | [_, _], _ => rfl,
    m_Lup := PySem.W.mg_of X G a_Lup,
    F_Lraised := F_Lraised,
    b_Lraised := F_Lraised.binds (ps := ["_law_rule_here", "_law_by"]) fun _ _ _ _ _ _ us hl => match us, hl with | [_, _], _ => rfl,
    m_Lraised := PySem.W.mg_of X G a_Lraised,
    F_Lodd := F_Lodd,
    b_Lodd := F_Lodd.binds (ps := ["_law_place", "_law_rule_here"]) fun _ _ _ _ _ _ us hl => match us, hl with | [_, _], _ => rfl,
    m_Lodd := PySem.W.mg_of X G a_Lodd,
    F_Ltries := F_Ltries,
    b_Ltries := F_Ltries.binds (ps := ["_law_things"]) fun _ _ _ _ _ _ us hl => match us, hl with | [_], _ => rfl,
    m_Ltries := PySem.W.mg_of X G a_Ltries,
    F_Llabels := F_Llabels,
    b_Llabels := F_Llabels.binds (ps := []) fun _ _ _ _ _ _ us hl => match us, hl with | [], _ => rfl,
    m_Llabels := PySem.W.mg_of X G a_Llabels,
    F_Lrefused := F_Lrefused,
    b_Lrefused := F_Lrefused.binds (ps := ["_law_hand_here", "_law_rule_here"]) fun _ _ _ _ _ _ us hl => match us, hl with | [_, _], _ => rfl,
    m_Lrefused := PySem.W.mg_of X G a_Lrefused,
    F_Lother := F_Lother,
    b_Lother := F_Lother.binds (ps := ["_law_rule_here", "_law_place", "_law_name"]) fun _ _ _ _ _ _ us hl => match us, hl with | [_, _, _], _ => rfl,
    m_Lother := PySem.W.mg_of X G a_Lother,
    F_Lequal := F_Lequal,
    b_Lequal := F_Lequal.binds (ps := ["_law_hand_here", "_law_rule_here", "_law_name"]) fun _ _ _ _ _ _ us hl => match us, hl with | [_, _, _], _ => rfl,
    m_Lequal := PySem.W.mg_of X G a_Lequal,
    F_Lleft_out := F_Lleft_out,
    b_Lleft_out := F_Lleft_out.binds (ps := ["_law_rule_here"]) fun _ _ _ _ _ _ us hl => match us, hl with | [_], _ => rfl,
    m_Lleft_out := PySem.W.mg_of X G a_Lleft_out,
    F_Lraise := F_Lraise,
    b_Lraise := F_Lraise.binds (ps := ["_law_made_here", "_law_by"]) fun _ _ _ _ _ _ us hl => match us, hl with | [_, _], _ => rfl,
    m_Lraise := PySem.W.mg_of X G a_Lraise,
    F_Lraises := F_Lraises,
    b_Lraises := F_Lraises.binds (ps := ["_law_hand_here", "_law_rule_here"]) fun _ _ _ _ _ _ us hl => match us, hl with | [_, _], _ => rfl,
    m_Lraises := PySem.W.mg_of X G a_Lraises,
    F_law := F_law,
    b_law := F_law.binds (ps := ["_law_script"]) fun _ _ _ _ _ _ us hl => match us, hl with | [_], _ => rfl,
    m_law := PySem.W.mg_of X G a_law,
    m_CallError := PySem.W.mg_of X G a_CallError,
    e_CallError := ⟨x_CallError, k_CallError, b_CallError, t_CallError, i_CallError, s_CallError⟩,
    m_BadRule := PySem.W.mg_of X G a_BadRule,
    x_BadRule := ⟨⟨⟨nm_BadRule, qn_BadRule, N_BadRule, bs_BadRule, _, sn_BadRule, sb_BadRule, ab_BadRule, co_BadRule, dd_BadRule, m0_BadRule, m1_BadRule, m2_BadRule, m3_BadRule, m5_BadRule, x_BadRule, rfl⟩, sa_BadRule, b_BadRule, t_BadRule, k_BadRule⟩, a_BadRuleu_initu, y_BadRule, i_BadRule, s_BadRule, ⟨ga_BadRule, gg_BadRule, b_BadRule, hd_BadRule⟩⟩,
    n_BadRule_what := n_BadRule_what,
    m_BadRaise := PySem.W.mg_of X G a_BadRaise,
    e_BadRaise := ⟨x_BadRaise, k_BadRaise, b_BadRaise, t_BadRaise, i_BadRaise, s_BadRaise⟩,
    m_Rule := PySem.W.mg_of X G a_Rule,
    o_Rule := ⟨pg_Rule, hd_Rule, po_Rule, sa_Rule⟩,
    k_Rule := ⟨mk_Rule, a_Ruleu_initu, fn_Ruleu_initu, kp_Rule⟩,
    h_Ruleu_equ := ⟨a_Ruleu_equ, fn_Ruleu_equ, k_Ruleu_equ⟩,
    h_Rule_raised := ⟨a_Rule_raised, fn_Rule_raised, k_Rule_raised⟩,
    n_Rule_word := n_Rule_word,
    n_Rule_tests := n_Rule_tests,
    n_Rule_own := n_Rule_own,
    n_Rule_other := n_Rule_other,
    n_Rule_foe := n_Rule_foe,
    n_Rule_low := n_Rule_low,
    n_Rule_high := n_Rule_high,
    n_Rule_side := n_Rule_side,
    z_ValueError := PySem.W.mg_none_of X G z_ValueError,
    z_abs := PySem.W.mg_none_of X G z_abs,
    z_all := PySem.W.mg_none_of X G z_all,
    z_any := PySem.W.mg_none_of X G z_any,
    z_bool := PySem.W.mg_none_of X G z_bool,
    z_enumerate := PySem.W.mg_none_of X G z_enumerate,
    z_int := PySem.W.mg_none_of X G z_int,
    z_isinstance := PySem.W.mg_none_of X G z_isinstance,
    z_len := PySem.W.mg_none_of X G z_len,
    z_list := PySem.W.mg_none_of X G z_list,
    z_max := PySem.W.mg_none_of X G z_max,
    z_min := PySem.W.mg_none_of X G z_min,
    z_range := PySem.W.mg_none_of X G z_range,
    z_str := PySem.W.mg_none_of X G z_str,
    z_tuple := PySem.W.mg_none_of X G z_tuple,
    z_zip := PySem.W.mg_none_of X G z_zip,
    c_EAST := PySem.W.mg_of X G c_EAST,
    c_WEST := PySem.W.mg_of X G c_WEST,
    c_LADDER_MOST := PySem.W.mg_of X G c_LADDER_MOST,
    c_LETTERS_MOST := PySem.W.mg_of X G c_LETTERS_MOST,
    c_NUMBER_MOST := PySem.W.mg_of X G c_NUMBER_MOST,
    c_NONE := PySem.W.mg_of X G c_NONE,
    c_TESTS_MOST := PySem.W.mg_of X G c_TESTS_MOST,
    i_Rule_ca := zz_i_Rule_ca,
    i_Rule_cn := zz_i_Rule_cn,
    i_Rule_ct := zz_i_Rule_ct,
    i_Rule_cm := zz_i_Rule_cm,
    i_Rule_kt := zz_i_Rule_kt,
    i_Rule_nt := zz_i_Rule_nt,
    i_Rule_ne := zz_i_Rule_ne,
    i_BadRule_ga := zz_i_BadRule_ga,
    i_BadRule_gg := zz_i_BadRule_gg,
    i_BadRule_xca := zz_i_BadRule_xca,
    i_BadRule_mr := zz_i_BadRule_mr,
    i_BadRule_xc := zz_i_BadRule_xc,
    i_BadRaise_ga := zz_i_BadRaise_ga,
    i_BadRaise_gg := zz_i_BadRaise_gg,
    i_BadRaise_xca := zz_i_BadRaise_xca,
    i_BadRaise_mr := zz_i_BadRaise_mr,
    i_BadRaise_xc := zz_i_BadRaise_xc,
    kb2_foe_high_other_Ruleu_initu := Jv.kbD (K := K) (T := q_Ruleu_initu) t_Ruleu_initu rfl (fun us ws h1 h2 => match us, h1, ws, h2 with | [_, _], _, [_, _, _], _ => ⟨_, rfl, rfl⟩) fun r1 r2 => (Vals.append r1 (.cons (rfl) (.cons (rfl) (.cons (Jv.vals_getD r2 2) (.cons (Jv.vals_getD r2 0) (.cons (⟨_, rfl⟩) (.cons (Jv.vals_getD r2 1) (.cons (rfl) .nil)))))))),
    kb2_low_side_own_tests_Ruleu_initu := Jv.kbD (K := K) (T := q_Ruleu_initu) t_Ruleu_initu rfl (fun us ws h1 h2 => match us, h1, ws, h2 with | [_, _], _, [_, _, _, _], _ => ⟨_, rfl, rfl⟩) fun r1 r2 => (Vals.append r1 (.cons (Jv.vals_getD r2 3) (.cons (Jv.vals_getD r2 2) (.cons (rfl) (.cons (rfl) (.cons (Jv.vals_getD r2 0) (.cons (rfl) (.cons (Jv.vals_getD r2 1) .nil)))))))) }
  exact ⟨T.d_law, fun s v => .of_eq rfl, fun base _ _ => ok_law T O⟩
end K17
open PySem PySem.W PyProof.Rows
set_option maxHeartbeats 0 in
theorem PySem.Challenge.cw_risingcalls_k17_whole_rules_made_and_rai_holds : PySem.Challenge.rw_risingcalls_k17_whole_rules_made_and_rai.Holds := by
  w_on; o_law; k_head; (case hw => w_witness2)
  k_fill
  refine L2.walk_of (l := PySem.Challenge.rw_risingcalls_k17_whole_rules_made_and_rai) (n := 63) (k := 10) (x := "_law_script") (CX := fun _ => L2.CX0) (sp := fun w => K17.sp_law _) rfl (by decide) rfl ⟨rfl, by decide, by decide⟩ (fun w h Y => PySem.W.kIn_of Y) ?F (fun _ _ a ns hl _ hS => ⟨a, ns, rfl, hS, hl, fun _ => rfl⟩) (fun _ _ _ _ _ h => h)
  case F =>
    intro w mg fa h KX G hmg
    refine' K17.all_mk KX G hmg ?a_CallError ?a_BadRule ?a_BadRaise ?a_Rule ?a_BadRuleu_initu ?l_BadRuleu_initu ?c_BadRuleu_initu ?k_BadRuleu_initu ?a_is_whole ?l_is_whole ?c_is_whole ?k_is_whole ?t_is_whole ?a_is_sequence ?l_is_sequence ?c_is_sequence ?k_is_sequence ?a_is_name ?l_is_name ?c_is_name ?k_is_name ?a_is_test ?l_is_test ?c_is_test ?k_is_test ?a_are_tests ?l_are_tests ?c_are_tests ?k_are_tests ?a_is_condition ?l_is_condition ?c_is_condition ?k_is_condition ?a_words_fault ?l_words_fault ?c_words_fault ?k_words_fault ?a_bounds_fault ?l_bounds_fault ?c_bounds_fault ?k_bounds_fault ?a_raised_number ?l_raised_number ?c_raised_number ?k_raised_number ?a_Ruleu_initu ?l_Ruleu_initu ?c_Ruleu_initu ?k_Ruleu_initu ?t_Ruleu_initu ?w0_Ruleu_initu_ ?a_Ruleu_equ ?l_Ruleu_equ ?c_Ruleu_equ ?k_Ruleu_equ ?a_Rule_raised ?l_Rule_raised ?c_Rule_raised ?k_Rule_raised ?a_Lmix ?l_Lmix ?c_Lmix ?k_Lmix ?a_Lhand ?l_Lhand ?c_Lhand ?k_Lhand ?a_Ldraw ?l_Ldraw ?c_Ldraw ?k_Ldraw ?a_Lwhole ?l_Lwhole ?c_Lwhole ?k_Lwhole ?a_Lpick ?l_Lpick ?c_Lpick ?k_Lpick ?a_Lshape ?l_Lshape ?c_Lshape ?k_Lshape ?a_Ldeep ?l_Ldeep ?c_Ldeep ?k_Ldeep ?a_Lsame ?l_Lsame ?c_Lsame ?k_Lsame ?a_Lnames ?l_Lnames ?c_Lnames ?k_Lnames ?a_Ltests ?l_Ltests ?c_Ltests ?k_Ltests ?a_Lasked ?l_Lasked ?c_Lasked ?k_Lasked ?a_Lrule ?l_Lrule ?c_Lrule ?k_Lrule ?a_Lmade ?l_Lmade ?c_Lmade ?k_Lmade ?a_Lis_rule ?l_Lis_rule ?c_Lis_rule ?k_Lis_rule ?a_Lup ?l_Lup ?c_Lup ?k_Lup ?a_Lraised ?l_Lraised ?c_Lraised ?k_Lraised ?a_Lodd ?l_Lodd ?c_Lodd ?k_Lodd ?a_Ltries ?l_Ltries ?c_Ltries ?k_Ltries ?a_Llabels ?l_Llabels ?c_Llabels ?k_Llabels ?a_Lrefused ?l_Lrefused ?c_Lrefused ?k_Lrefused ?a_Lother ?l_Lother ?c_Lother ?k_Lother ?a_Lequal ?l_Lequal ?c_Lequal ?k_Lequal ?a_Lleft_out ?l_Lleft_out ?c_Lleft_out ?k_Lleft_out ?a_Lraise ?l_Lraise ?c_Lraise ?k_Lraise ?a_Lraises ?l_Lraises ?c_Lraises ?k_Lraises ?a_law ?l_law ?c_law ?k_law ?k_CallError ?b_CallError ?t_CallError ?i_CallError ?s_CallError ?x_CallError ?k_BadRule ?b_BadRule ?t_BadRule ?i_BadRule ?s_BadRule ?x_BadRule ?sa_BadRule ?ga_BadRule ?gg_BadRule ?hd_BadRule ?y_BadRule ?n_BadRule_what ?k_BadRaise ?b_BadRaise ?t_BadRaise ?i_BadRaise ?s_BadRaise ?x_BadRaise ?kp_Rule ?pg_Rule ?hd_Rule ?po_Rule ?sa_Rule ?mk_Rule ?fn_Ruleu_initu ?fn_Ruleu_equ ?fn_Rule_raised ?n_Rule_word ?n_Rule_tests ?n_Rule_own ?n_Rule_other ?n_Rule_foe ?n_Rule_low ?n_Rule_high ?n_Rule_side ?z_ValueError ?z_abs ?z_all ?z_any ?z_bool ?z_enumerate ?z_int ?z_isinstance ?z_len ?z_list ?z_max ?z_min ?z_range ?z_str ?z_tuple ?z_zip ?c_EAST ?c_WEST ?c_LADDER_MOST ?c_LETTERS_MOST ?c_NUMBER_MOST ?c_NONE ?c_TESTS_MOST ?zz_i_Rule_ca ?zz_i_Rule_cn ?zz_i_Rule_ct ?zz_i_Rule_cm ?zz_i_Rule_kt ?zz_i_Rule_nt ?zz_i_Rule_ne ?zz_i_BadRule_ga ?zz_i_BadRule_gg ?zz_i_BadRule_xca ?zz_i_BadRule_mr ?zz_i_BadRule_xc ?zz_i_BadRaise_ga ?zz_i_BadRaise_gg ?zz_i_BadRaise_xca ?zz_i_BadRaise_mr ?zz_i_BadRaise_xc
    (case a_CallError => k_is)
    (case a_BadRule => k_is)
    (case a_BadRaise => k_is)
    (case a_Rule => k_is)
    (case a_BadRuleu_initu => k_is)
    (case l_BadRuleu_initu => k_is)
    (case c_BadRuleu_initu => k_is)
    (case k_BadRuleu_initu => k_is)
    (case a_is_whole => k_is)
    (case l_is_whole => k_is)
    (case c_is_whole => k_is)
    (case k_is_whole => k_is)
    (case t_is_whole => k_is)
    (case a_is_sequence => k_is)
    (case l_is_sequence => k_is)
    (case c_is_sequence => k_is)
    (case k_is_sequence => k_is)
    (case a_is_name => k_is)
    (case l_is_name => k_is)
    (case c_is_name => k_is)
    (case k_is_name => k_is)
    (case a_is_test => k_is)
    (case l_is_test => k_is)
    (case c_is_test => k_is)
    (case k_is_test => k_is)
    (case a_are_tests => k_is)
    (case l_are_tests => k_is)
    (case c_are_tests => k_is)
    (case k_are_tests => k_is)
    (case a_is_condition => k_is)
    (case l_is_condition => k_is)
    (case c_is_condition => k_is)
    (case k_is_condition => k_is)
    (case a_words_fault => k_is)
    (case l_words_fault => k_is)
    (case c_words_fault => k_is)
    (case k_words_fault => k_is)
    (case a_bounds_fault => k_is)
    (case l_bounds_fault => k_is)
    (case c_bounds_fault => k_is)
    (case k_bounds_fault => k_is)
    (case a_raised_number => k_is)
    (case l_raised_number => k_is)
    (case c_raised_number => k_is)
    (case k_raised_number => k_is)
    (case a_Ruleu_initu => k_is)
    (case l_Ruleu_initu => k_is)
    (case c_Ruleu_initu => k_is)
    (case k_Ruleu_initu => k_is)
    (case t_Ruleu_initu => k_is)
    (case w0_Ruleu_initu_ => k_is)
    (case a_Ruleu_equ => k_is)
    (case l_Ruleu_equ => k_is)
    (case c_Ruleu_equ => k_is)
    (case k_Ruleu_equ => k_is)
    (case a_Rule_raised => k_is)
    (case l_Rule_raised => k_is)
    (case c_Rule_raised => k_is)
    (case k_Rule_raised => k_is)
    (case a_Lmix => k_is)
    (case l_Lmix => k_is)
    (case c_Lmix => k_is)
    (case k_Lmix => k_is)
    (case a_Lhand => k_is)
    (case l_Lhand => k_is)
    (case c_Lhand => k_is)
    (case k_Lhand => k_is)
    (case a_Ldraw => k_is)
    (case l_Ldraw => k_is)
    (case c_Ldraw => k_is)
    (case k_Ldraw => k_is)
    (case a_Lwhole => k_is)
    (case l_Lwhole => k_is)
    (case c_Lwhole => k_is)
    (case k_Lwhole => k_is)
    (case a_Lpick => k_is)
    (case l_Lpick => k_is)
    (case c_Lpick => k_is)
    (case k_Lpick => k_is)
    (case a_Lshape => k_is)
    (case l_Lshape => k_is)
    (case c_Lshape => k_is)
    (case k_Lshape => k_is)
    (case a_Ldeep => k_is)
    (case l_Ldeep => k_is)
    (case c_Ldeep => k_is)
    (case k_Ldeep => k_is)
    (case a_Lsame => k_is)
    (case l_Lsame => k_is)
    (case c_Lsame => k_is)
    (case k_Lsame => k_is)
    (case a_Lnames => k_is)
    (case l_Lnames => k_is)
    (case c_Lnames => k_is)
    (case k_Lnames => k_is)
    (case a_Ltests => k_is)
    (case l_Ltests => k_is)
    (case c_Ltests => k_is)
    (case k_Ltests => k_is)
    (case a_Lasked => k_is)
    (case l_Lasked => k_is)
    (case c_Lasked => k_is)
    (case k_Lasked => k_is)
    (case a_Lrule => k_is)
    (case l_Lrule => k_is)
    (case c_Lrule => k_is)
    (case k_Lrule => k_is)
    (case a_Lmade => k_is)
    (case l_Lmade => k_is)
    (case c_Lmade => k_is)
    (case k_Lmade => k_is)
    (case a_Lis_rule => k_is)
    (case l_Lis_rule => k_is)
    (case c_Lis_rule => k_is)
    (case k_Lis_rule => k_is)
    (case a_Lup => k_is)
    (case l_Lup => k_is)
    (case c_Lup => k_is)
    (case k_Lup => k_is)
    (case a_Lraised => k_is)
    (case l_Lraised => k_is)
    (case c_Lraised => k_is)
    (case k_Lraised => k_is)
    (case a_Lodd => k_is)
    (case l_Lodd => k_is)
    (case c_Lodd => k_is)
    (case k_Lodd => k_is)
    (case a_Ltries => k_is)
    (case l_Ltries => k_is)
    (case c_Ltries => k_is)
    (case k_Ltries => k_is)
    (case a_Llabels => k_is)
    (case l_Llabels => k_is)
    (case c_Llabels => k_is)
    (case k_Llabels => k_is)
    (case a_Lrefused => k_is)
    (case l_Lrefused => k_is)
    (case c_Lrefused => k_is)
    (case k_Lrefused => k_is)
    (case a_Lother => k_is)
    (case l_Lother => k_is)
    (case c_Lother => k_is)
    (case k_Lother => k_is)
    (case a_Lequal => k_is)
    (case l_Lequal => k_is)
    (case c_Lequal => k_is)
    (case k_Lequal => k_is)
    (case a_Lleft_out => k_is)
    (case l_Lleft_out => k_is)
    (case c_Lleft_out => k_is)
    (case k_Lleft_out => k_is)
    (case a_Lraise => k_is)
    (case l_Lraise => k_is)
    (case c_Lraise => k_is)
    (case k_Lraise => k_is)
    (case a_Lraises => k_is)
    (case l_Lraises => k_is)
    (case c_Lraises => k_is)
    (case k_Lraises => k_is)
    (case a_law => k_is)
    (case l_law => k_is)
    (case c_law => k_is)
    (case k_law => k_is)
    (case k_CallError => k_is)
    (case b_CallError => k_is)
    (case t_CallError => k_is)
    (case i_CallError => k_is)
    (case s_CallError => first | rfl | k_is)
    (case x_CallError => k_exc)
    (case k_BadRule => k_is)
    (case b_BadRule => k_is)
    (case t_BadRule => k_is)
    (case i_BadRule => k_is)
    (case s_BadRule => first | rfl | k_is)
    (case x_BadRule => k_is)
    (case sa_BadRule => k_is)
    (case ga_BadRule => k_is)
    (case gg_BadRule => k_is)
    (case hd_BadRule => k_is)
    (case y_BadRule => k_is)
    (case n_BadRule_what => k_is)
    (case k_BadRaise => k_is)
    (case b_BadRaise => k_is)
    (case t_BadRaise => k_is)
    (case i_BadRaise => k_is)
    (case s_BadRaise => first | rfl | k_is)
    (case x_BadRaise => k_exc)
    (case kp_Rule => k_is)
    (case pg_Rule => k_is)
    (case hd_Rule => k_is)
    (case po_Rule => k_is)
    (case sa_Rule => k_is)
    (case mk_Rule => k_is)
    (case fn_Ruleu_initu => k_is)
    (case fn_Ruleu_equ => k_is)
    (case fn_Rule_raised => k_is)
    (case n_Rule_word => k_is)
    (case n_Rule_tests => k_is)
    (case n_Rule_own => k_is)
    (case n_Rule_other => k_is)
    (case n_Rule_foe => k_is)
    (case n_Rule_low => k_is)
    (case n_Rule_high => k_is)
    (case n_Rule_side => k_is)
    (case z_ValueError => k_is)
    (case z_abs => k_is)
    (case z_all => k_is)
    (case z_any => k_is)
    (case z_bool => k_is)
    (case z_enumerate => k_is)
    (case z_int => k_is)
    (case z_isinstance => k_is)
    (case z_len => k_is)
    (case z_list => k_is)
    (case z_max => k_is)
    (case z_min => k_is)
    (case z_range => k_is)
    (case z_str => k_is)
    (case z_tuple => k_is)
    (case z_zip => k_is)
    (case c_EAST => k_is)
    (case c_WEST => k_is)
    (case c_LADDER_MOST => k_is)
    (case c_LETTERS_MOST => k_is)
    (case c_NUMBER_MOST => k_is)
    (case c_NONE => k_is)
    (case c_TESTS_MOST => k_is)
    (case zz_i_Rule_ca => k_is)
    (case zz_i_Rule_cn => k_is)
    (case zz_i_Rule_ct => k_is)
    (case zz_i_Rule_cm => k_is)
    (case zz_i_Rule_kt => first | rfl | kernel_rfl)
    (case zz_i_Rule_nt => k_is)
    (case zz_i_Rule_ne => k_is)
    (case zz_i_BadRule_ga => k_is)
    (case zz_i_BadRule_gg => k_is)
    (case zz_i_BadRule_xca => k_is)
    (case zz_i_BadRule_mr => k_is)
    (case zz_i_BadRule_xc => first | rfl | kernel_rfl)
    (case zz_i_BadRaise_ga => k_is)
    (case zz_i_BadRaise_gg => k_is)
    (case zz_i_BadRaise_xca => k_is)
    (case zz_i_BadRaise_mr => k_is)
    (case zz_i_BadRaise_xc => first | rfl | kernel_rfl)

