import PyProof.Rows.All
import Wide.All
import OpenK.AllK
import Wide.FinOn
import PyProof.EqAt
import PyProof.EqKinds
import PyProof.TupleCall
import HandS.ForMost
import HandS.ForExc
import HandS.Wide
import HandS.IsInst
import HandS.SortInts
import HandS.Strs
import HandS.SetFor
import HandS.Conv
import HandS.Small
import HandS.Defaults
import HandS.Walk
import HandS.Flow
import HandS.Codes
import HandS.ExcInit
import HandS.ExcField
import HandS.Style
import HandS.TryMany
import PySem.Challenge.RW_risingcalls_k09_whole_rows_made_and_aske
import HandS.Text
import HandS.Property
import HandS.TupAny
import HandS.SortKw
import HandS.GenList
import HandS.IterNext
import HandS.Strs
import KE.KExcIs
import KE.KMinKey
import KE.GoesEnum
import KE.GoesMore
import PyProof.Draws
import PyProof.ReprRoads
import PyProof.ReprLen
set_option Elab.async false
set_option linter.all false
set_option maxRecDepth 100000
set_option maxHeartbeats 2000000

/-! ### my words for readings: one lemma a construct, by the head of the reading -/
namespace Jv
open PySem PySem.Spec PyProof.Rows L2
section
variable {K : PySem.W.Frag} {σ : L2.St} {H : Hp} {D : Ends} {t u : TS} {te ta tb tc : TE} {g : TG} {tt tu : TT} {tA : TA} {i : Nat} {v x y z : V} {Q : VK} {R : Bool → Hp → Prop}
theorem r_seq (h : t { D with nx := u D } σ H) : tSeq t u D σ H := h
theorem r_asg (h : te σ H fun x H1 => g x σ H1 D.nx) : tAsg te g D σ H := h
theorem r_gn {Q : L2.St → Hp → Prop} (h : Q (σ.set i (some v)) H) : gName i v σ H Q := h
theorem r_ret (h : te σ H D.rt) : tRet te D σ H := h
theorem r_retN (h : D.rt .non H) : tRetN D σ H := h
theorem r_drop (h : te σ H fun _ H1 => D.nx σ H1) : tDrop te D σ H := h
theorem r_if (h : tt σ H fun b H1 => if b = true then t D σ H1 else u D σ H1) : tIfS tt t u D σ H := h
theorem r_next (h : D.nx σ H) : tNext D σ H := h
theorem r_brk (h : D.bk σ H) : tBreak D σ H := h
theorem r_cont (h : D.ct σ H) : tCont D σ H := h
theorem r_var (h : σ[i]? = some (some v)) (q : Q v H) : tVar i σ H Q := ⟨v, h, q⟩
theorem r_c (q : Q v H) : tC v σ H Q := q
theorem r_op {r : R2} (h : ta σ H fun x H1 => tb σ H1 fun y H2 => r x y H2 Q) : tOp r ta tb σ H Q := h
theorem r_un {r : V → Hp → VK → Prop} (h : ta σ H fun x H1 => r x H1 Q) : tUn r ta σ H Q := h
theorem r_I {C : Int → Int → Prop} {f : Int → Int → V} {a b : Int} (c : C a b) (q : Q (f a b) H) : rI C f (.int a) (.int b) H Q := ⟨a, b, rfl, rfl, c, q⟩
theorem r_I0 {f : Int → Int → V} {a b : Int} (q : Q (f a b) H) : rI0 f (.int a) (.int b) H Q := ⟨a, b, rfl, rfl, q⟩
theorem r_U {f : Int → V} {a : Int} (q : Q (f a) H) : rU f (.int a) H Q := ⟨a, rfl, q⟩
theorem r_eq (s : scal x y = true) (q : Q (.bl (decide (x = y))) H) : rEq x y H Q := ⟨s, q⟩
theorem r_ne (s : scal x y = true) (q : Q (.bl (!decide (x = y))) H) : rNe x y H Q := ⟨s, q⟩
theorem r_test (h : te σ H fun x H1 => ∃ k, x = .bl k ∧ R k H1) : tTest te σ H R := h
theorem r_B (h : te σ H fun x H1 => ∃ k, x = .bl k ∧ R k H1) : tB te σ H R := h
theorem r_bl {b : Bool} {P : Bool → Prop} (q : P b) : ∃ k, V.bl b = .bl k ∧ P k := ⟨b, rfl, q⟩
theorem r_and (h : tt σ H fun c H1 => if c = true then tu σ H1 R else R false H1) : tAnd tt tu σ H R := h
theorem r_or (h : tt σ H fun c H1 => if c = true then R true H1 else tu σ H1 R) : tOr tt tu σ H R := h
theorem r_not (h : tt σ H fun c H1 => R (!c) H1) : tNot tt σ H R := h
theorem r_andV (h : ta σ H fun x H1 => ∃ c, x = .bl c ∧ if c = true then tb σ H1 Q else Q (.bl false) H1) : tAndV ta tb σ H Q := h
theorem r_orV (h : ta σ H fun x H1 => ∃ c, x = .bl c ∧ if c = true then Q (.bl true) H1 else tb σ H1 Q) : tOrV ta tb σ H Q := h
theorem r_notV (h : ta σ H fun x H1 => ∃ c, x = .bl c ∧ Q (.bl (!c)) H1) : tNotV ta σ H Q := h
theorem r_ife (h : tt σ H fun c H1 => if c = true then ta σ H1 Q else tb σ H1 Q) : tIf tt ta tb σ H Q := h
theorem r_chain {r r' : R2} (h : ta σ H fun x H1 => tb σ H1 fun y H2 => r x y H2 fun z H3 => ∃ k, z = .bl k ∧
  (if k = true then tc σ H3 fun w' H4 => r' y w' H4 Q else Q (.bl false) H3)) : tChain r r' ta tb tc σ H Q := h
theorem r_nil {P : List V → Hp → Prop} (q : P [] H) : tNil σ H P := q
theorem r_cons {P : List V → Hp → Prop} (h : ta σ H fun x H1 => tA σ H1 fun xs H2 => P (x :: xs) H2) : tCons ta tA σ H P := h
theorem r_tup (h : tA σ H fun xs H1 => xs.length ≤ sizeLine ∧ ∀ p, H1 p = none → Q (.ref p) (upd H1 p (.tup xs))) : tTup tA σ H Q := h
theorem r_lst (h : tA σ H fun xs H1 => xs.length ≤ sizeLine ∧ ∀ p, H1 p = none → Q (.ref p) (upd H1 p (.lst xs))) : tLst tA σ H Q := h
theorem r_new {n : Nat} {P : Prop} (h1 : n ≤ 1000) (q : P) : n ≤ sizeLine ∧ P := ⟨Nat.le_trans h1 (by decide), q⟩
theorem r_CB {r : List V → Hp → VK → Prop} (h : tA σ H fun vs H1 => r vs H1 Q) : tCB r tA σ H Q := h
theorem r_call {sp : Sp} {dvs : List V} {E : XK} (h : tA σ H fun vs H1 => sp (vs ++ dvs) H1 Q E) : tCall sp dvs E tA σ H Q := h
theorem r_callS {sp : Sp} {E : L2.St → XK} (h : tA σ H fun vs H1 => sp vs H1 Q (E σ)) : tCallS sp E tA σ H Q := h
theorem r_for {wi : TI} (h : wi σ H fun J H1 => ∃ W : Nat → Nat → L2.St → Hp → Prop, (∃ m, W 0 m σ H1) ∧ ∀ i m σ H, W i m σ H →
  (J.stop i H ∧ D.nx σ H) ∨ (J.go i H ∧ ∃ N : L2.St → Hp → Prop, (∀ σ' H', N σ' H' → ∃ m', m' < m ∧ W (i + 1) m' σ' H') ∧ ∀ x H', J.yld i H x H' → g x σ H' fun σ2 H2 => t { D with nx := N, ct := N, bk := D.nx } σ2 H2)) : tFor wi g t D σ H := h
theorem r_iR1 {P : It → Hp → Prop} (h : tA σ H fun vs H1 => ∃ j : Int, vs = [.int j] ∧ -(2 ^ 62) ≤ j ∧ j < 2 ^ 62 ∧ P (Itr 0 j.toNat) H1) : iRng1 tA σ H P := h
theorem r_iR2 {P : It → Hp → Prop} (h : tA σ H fun vs H1 => ∃ i j : Int, vs = [.int i, .int j] ∧ (-(2 ^ 62) ≤ i ∧ i < 2 ^ 62 ∧ -(2 ^ 62) ≤ j ∧ j < 2 ^ 62) ∧ P (Itr i (j - i).toNat) H1) : iRng2 tA σ H P := h
theorem r_sub {to ti : TE} {w : TSet} {Q : L2.St → Hp → Prop} (h : to σ H fun o H1 => ti σ H1 fun i H2 => w o i v H2 fun H3 => Q σ H3) : gSub to ti w v σ H Q := h
theorem r_ixL {p : Addr} {xs : List V} {k : Int} (h : SqL K H p xs) (e : atI xs k = some v) (q : Q v H) : rIxL K (.ref p) (.int k) H Q := ⟨p, xs, k, v, rfl, rfl, h, e, q⟩
theorem r_ixT {p : Addr} {xs : List V} {k : Int} (h : SqT K H p xs) (e : atI xs k = some v) (q : Q v H) : rIxT K (.ref p) (.int k) H Q := ⟨p, xs, k, v, rfl, rfl, h, e, q⟩
theorem r_setL {p : Addr} {xs : List V} {k : Int} {j : Nat} {P : Hp → Prop} (h : H p = some (.lst xs)) (e : ixN xs.length k = some j) (q : P (upd H p (.lst (xs.set j v)))) : rSetL (.ref p) (.int k) v H P := ⟨p, xs, k, j, rfl, rfl, h, e, q⟩
theorem r_true {A B : Prop} {c : Bool} (e : c = true) (h : A) : if c = true then A else B := by rw [if_pos e]; exact h
theorem r_false {A B : Prop} {c : Bool} (e : c = false) (h : B) : if c = true then A else B := by rw [e, if_neg Bool.false_ne_true]; exact h
theorem r_dec {A B p : Prop} {_ : Decidable p} (h1 : p → A) (h2 : ¬ p → B) : if decide p = true then A else B := by
  by_cases h : p
  · exact r_true (decide_eq_true h) (h1 h)
  · exact r_false (decide_eq_false h) (h2 h)
theorem r_ndec {A B p : Prop} {_ : Decidable p} (h1 : ¬ p → A) (h2 : p → B) : if (!decide p) = true then A else B := by
  by_cases h : p
  · exact r_false (by rw [decide_eq_true h]; rfl) (h2 h)
  · exact r_true (by rw [decide_eq_false h]; rfl) (h1 h)
theorem r_bool {A B : Prop} {c : Bool} (h1 : c = true → A) (h2 : c = false → B) : if c = true then A else B := by
  cases c
  · exact r_false rfl (h2 rfl)
  · exact r_true rfl (h1 rfl)
theorem r_int {a : Int} {P : Int → Prop} {P' : Bool → Prop} (q : P a) : (∃ i, [V.int a] = [.int i] ∧ P i) ∨ ∃ k, [V.int a] = [.bl k] ∧ P' k := .inl ⟨a, rfl, q⟩
theorem small_of {n : Nat} (h : n ≤ 1000) : n ≤ sizeLine := Nat.le_trans h (by decide)
theorem small_lt {n : Nat} (h : n < 1000) : n < sizeLine := Nat.lt_of_lt_of_le h (by decide)
/-- what stands ahead of a new object, stands behind it -/
theorem kp {a p : Addr} {o u : HO} (h : H a = some o) (n : H p = none) : upd H p u a = some o := by rw [upd_ne (ne_of_none h n)]; exact h
theorem kpO {a l : Addr} {o u : HO} (h : H a = some o) (n : a ≠ l) : upd H l u a = some o := by rw [upd_ne n]; exact h
theorem same_new {p : Addr} {u : HO} (n : H p = none) : Same H (upd H p u) := fun _ _ e => kp e n
theorem Same.sqT {H' : Hp} {a : Addr} {xs : List V} (e : Same H H') (h : SqT K H a xs) : SqT K H' a xs := by
  rcases h with (h | ⟨o, h⟩) | h
  · exact .inl (.inl (e _ _ h))
  · exact .inl (.inr ⟨o, e _ _ h⟩)
  · exact .inr h
end
end Jv

/-! ### rules that the layer lacks: set(x), sorted(x) of a list or a tuple of ints; X() of an own exception; what the top says of exceptions -/
namespace JvS
open PySem PySem.Spec PyProof.Rows L2 SrtO
section
variable {P : Program} {w : World} {A : Around} {E : Value → Shared → Prop} {s : Shared}
/-- the empty set that set() begins with -/
abbrev emptyS (w : World) : Obj := { cls := .type "set", dict := none, data := .set #[] 0 (.fresh 0 0 (!w.params.followText "set-order")) }
theorem set_listI {l : Addr} {items : Array Value} (ns : List Int) {Q : Value → Shared → Prop} (hh : A.handled = none) (hl : s.heap.IsList l items) (hv : IntsAre items.toList ns) (few : ns.length + 1 < scanBound)
    (h : ∀ (h' : Heap) (tk c : Nat), SetR w h' s.heap.objs.size (fun j => decide (j ∈ ns)) c → c ≤ ns.length → (∀ b o, s.heap.get? b = some o → h'.get? b = some o) → Q (.ref s.heap.objs.size) { s with heap := h', toks := tk }) :
    wpAny (model P w) A (call (.type "set") [.ref l]) Q E s := by
  have sz : items.size = ns.length := by simpa using IntsAre.length hv
  obtain ⟨cM, tM, eM⟩ := F.called_set.mro
  have e1 := F.called_set.made; have e2 := F.called_set.sub; have e3 := F.called_set.notType; have e4 := F.called_set.canCreate; have e5 := F.typeCall_set_1 (.ref l)
  refine wpAny_call (codeAny_of_tree (show wpAny _ _ (callAny (.type "set") _) _ _ _ from wpAny_pure ⟨Code.quiet_builtin _ (by decide +kernel), codeAny_builtin F.entry_type_call ?_⟩))
  rw [Around.under_plain (weight_type_call_type "set" [.ref l] []) rfl]
  repeat any_goals (first | wp_step | assumption)
  refine codeAny_mono (code_set_led1 (P := P) (.ref l) (E := E) (Q₁ := fun v s1 => v = .ref s.heap.objs.size ∧ s1 = { s with heap := s.heap.push (emptyS w) }) ⟨rfl, rfl⟩) fun r s1 hr => ?_
  cases r with
  | error e => exact hr
  | ok fl =>
    cases fl with
    | next => exact hr.elim
    | brk => exact hr.elim
    | cont => exact hr.elim
    | ret v =>
      obtain ⟨rfl, rfl⟩ := hr
      have atS : (s.heap.push (emptyS w)).get? s.heap.objs.size = some (emptyS w) := Heap.get?_push_size _ rfl
      have tyS : Shared.TypeIs { s with heap := s.heap.push (emptyS w) } (.ref s.heap.objs.size) "set" := ⟨_, atS, rfl⟩
      have e6 := F.called_set.init.lookup; have e7 := F.called_set.init.bind (.ref s.heap.objs.size)
      repeat any_goals (first | wp_step | assumption)
      refine codeAny_mono (codeAny_call_builtin (R := wants (fun r s2 => r = .none ∧ ∃ h' tk c, s2 = { s with heap := h', toks := tk } ∧ SetR w h' s.heap.objs.size (fun j => decide (j ∈ ns)) c ∧ c ≤ ns.length ∧
        ∀ b o, s.heap.get? b = some o → h'.get? b = some o) E) F.called_set.init.plain F.entry_set_init (check_set_init_1 tyS ?_)) fun r2 s2 hr2 => ?_
      · have old : ∀ b o, s.heap.get? b = some o → (s.heap.push (emptyS w)).get? b = some o := fun b o q => Heap.get?_push_of_some _ q
        have lS : l < s.heap.objs.size := by obtain ⟨o, q, _⟩ := hl; exact Heap.lt_size q
        obtain ⟨⟨oc, od, dt, sl⟩, ol, q1, n1, q2⟩ := hl
        simp only at q1 q2; subst q1 q2
        have ol2 := old _ _ ol
        have isl : (s.heap.push (emptyS w)).IsList l items := ⟨_, ol2, rfl, n1, rfl⟩
        have b1 := F.sub_list_set; have b2 := F.sub_list_frozenset; have b3 : (Value.type "list" == Value.type "dict") = false := by decide
        unfold Builtin.«set.__init__» noKeywords Builtin.Frozenset.updateFrom
        generalize walkIt : pyIter = PI
        wp_walk
        subst walkIt
        refine wpAny_pyIter_list isl (wpAny_bind (wpAny_runValue ?_))
        have more : (s.heap.push (emptyS w)).objs.size = s.heap.objs.size + 1 := Heap.size_push ..
        have hh3 : A.in1.in1.in1.handled = none := by simp [hh]
        have lI : l ≠ (s.heap.push (emptyS w)).objs.size := by rw [more]; exact Nat.ne_of_lt (Nat.lt_succ_of_lt lS)
        have nS : s.heap.objs.size ∉ [(s.heap.push (emptyS w)).objs.size, l] := by
          rw [more]; simp only [List.mem_cons, List.not_mem_nil, or_false, not_or]
          exact ⟨Nat.ne_of_lt (Nat.lt_succ_self _), Nat.ne_of_gt lS⟩
        refine set_update_ints ((Walks.list hh3 _ l lI items).toS) s.heap.objs.size nS ns sz few (fun i v q => ?_) (items.size - 0) 0 _ (by omega) (Nat.zero_le _) ⟨⟨_, Heap.get?_push_size _ rfl, rfl, rfl⟩, isl.push _⟩ ⟨0, Nat.le_refl 0, setR_new_at (Heap.get?_push_of_some _ atS)⟩ fun s3 c hm hc hS => ?_
        · have hi : i < ns.length := by rw [← sz]; exact (Array.getElem?_eq_some_iff.mp q).1
          obtain ⟨t, e⟩ := PyProof.Rows.IntsAre.int_at hv i v (by rw [Array.getElem?_toList]; exact q)
          exact ⟨ns[i], t, List.getElem?_eq_getElem hi, by rw [e, List.getD_eq_getElem?_getD, List.getElem?_eq_getElem hi]; rfl⟩
        · obtain ⟨h3, g3, d3, t3, o3⟩ := s3
          obtain rfl : g3 = s.gens := hm.gens
          obtain rfl : d3 = s.drawn := hm.drawn
          obtain rfl : o3 = s.os := hm.os
          rw [sz] at hc
          refine wpAny_pure (show wpAny _ _ (ret Value.none) _ _ _ from wpAny_pure ⟨rfl, h3, t3, c, rfl, hS, hc, fun b o e => ?_⟩)
          have lb : b < s.heap.objs.size := Heap.lt_size e
          exact hm.heap b o (by
            rw [more]; simp only [List.mem_cons, List.not_mem_nil, or_false, not_or]
            exact ⟨Nat.ne_of_lt lb, Nat.ne_of_lt (Nat.lt_succ_of_lt lb)⟩) (Heap.get?_push_of_some _ (old _ _ e))
      · cases r2 with
        | error e => exact hr2
        | ok f2 =>
          cases f2 with
          | next => exact hr2.elim
          | brk => exact hr2.elim
          | cont => exact hr2.elim
          | ret r =>
            obtain ⟨rfl, h', tk, c, rfl, hS, hc, keep⟩ := hr2
            repeat any_goals (first | wp_step | assumption)
            exact h _ _ _ hS hc keep
end
end JvS
namespace Jv
open PySem PySem.Spec PyProof.Rows L2
section
variable {X : Cx}
/-- set(x), x a list or a tuple of ints -/
def rSetI (K : PySem.W.Frag) (w : World) : List V → Hp → VK → Prop := fun xs H Q => ∃ (l : Addr) (ns : List Int), xs = [.ref l] ∧ (SqL K H l (ns.map V.int) ∨ SqT K H l (ns.map V.int)) ∧ ns.length ≤ 1000 ∧
  ∀ p c, H p = none → c ≤ ns.length → Q (.ref p) (upd H p (SetO w p (fun j => decide (j ∈ ns)) c))
theorem cr_setI (hc : X.calm = true) : CallR X (.type "set") (rSetI X.K X.w) := by
  intro pins s σ H xs us Q I r h
  obtain ⟨l, ns, rfl, hs, few, q⟩ := h
  rw [Vals.ref1 r]
  have fin : ∀ (h' : Heap) (tk c : Nat), SetR X.w h' s.heap.objs.size (fun j => decide (j ∈ ns)) c → c ≤ ns.length → (∀ b o, s.heap.get? b = some o → h'.get? b = some o) →
      EP X pins σ Q (.ref s.heap.objs.size) { s with heap := h', toks := tk } := fun h' tk c R hcn keep =>
    ⟨.ref s.heap.objs.size, upd H s.heap.objs.size (SetO X.w s.heap.objs.size (fun j => decide (j ∈ ns)) c), I.laid (t' := tk) keep (Nat.le_refl _) (setO_new R), rfl, q _ c (I.hok.fresh (Nat.le_refl _)) hcn⟩
  rcases hs with hs | hs
  · obtain ⟨its, rv, hl, hz⟩ := I.list hs
    exact JvS.set_listI ns (I.ok.hd hc) hl.isList (by simpa using ints_of_vals rv) (by unfold scanBound; omega) fin
  · obtain ⟨its, rv, ht, hz⟩ := I.tuple hs
    exact call_set_tupI ns (I.ok.hd hc) (show s.heap.IsTuple l its.toArray from ht) (by simpa using ints_of_vals rv) (by unfold scanBound; omega) fin
/-- either of two rules for a call -/
theorem crOr {f : Value} {r r' : List V → Hp → VK → Prop} (h : CallR X f r) (h' : CallR X f r') : CallR X f (fun xs H Q => r xs H Q ∨ r' xs H Q) := fun pins s σ H xs us Q I rv q =>
  q.elim (fun q => h pins s σ H xs us Q I rv q) fun q => h' pins s σ H xs us Q I rv q
end
/-- an own error class without an __init__ of its own -/
structure ExcP (K : PySem.W.Frag) (C : Addr) : Prop where
  x : PySem.W.excIn K C [.type "ValueError", .type "Exception", .type "BaseException", .type "object"] "ValueError.__new__" = true
  k : PySem.W.keepIn K (.ref C) = true
  b : PySem.W.subIn K (.ref C) (.type "BaseException") = some true
  t : PySem.W.typeIn K (.ref C) = some (.type "type")
  i : PySem.W.isClsIn K C = true
  s : PySem.W.subIn K (.ref C) (.ref C) = some true
theorem exm_of {K : PySem.W.Frag} {C : Addr} (b : PySem.W.subIn K (.ref C) (.type "BaseException") = some true) (i : PySem.W.isClsIn K C = true) (t : PySem.W.typeIn K (.ref C) = some (.type "type")) (s : PySem.W.subIn K (.ref C) (.ref C) = some true) :
    PySem.W.exmOne K (.ref C) (.ref C) = some true := by
  have i' : (PySem.W.clsIn K C).isSome = true := i
  unfold PySem.W.exmOne PySem.W.kitCls
  simp [b, i', t, s]
theorem ExcP.e {K : PySem.W.Frag} {C : Addr} (h : ExcP K C) : PySem.W.exmOne K (.ref C) (.ref C) = some true := exm_of h.b h.i h.t h.s
theorem ExcP.raises {X : Cx} {C : Addr} (h : ExcP X.K C) : Raises X (.ref C) := raises_own h.b h.t
/-- .. with one, at fI -/
structure ExcI (K : PySem.W.Frag) (C fI : Addr) : Prop where
  o : OexC K C
  n : PySem.W.findIn K (.ref C) "__init__" = some (some (.ref fI))
  y : PySem.W.typeIn K (.ref fI) = some (.type "function")
  i : PySem.W.isClsIn K C = true
  s : PySem.W.subIn K (.ref C) (.ref C) = some true
  f : XfC K C
theorem ExcI.e {K : PySem.W.Frag} {C fI : Addr} (h : ExcI K C fI) : PySem.W.exmOne K (.ref C) (.ref C) = some true := exm_of h.o.exC h.i h.o.tyC h.s
section
variable {X : Cx}
/-- X() -/
theorem pmk_own0 {C : Addr} {bmB : List Value} {B newId initId : String} {x : Str} {p pos : Pos} (F : ExcBaseFacts B newId initId bmB) (q : PySem.W.excIn X.K C bmB newId = true) (gC : X.mg x = some (.ref C))
    (kC : PySem.W.keepIn X.K (.ref C) = true) (r : Raises X (.ref C)) (hg : Gl X x) (hdb : (x == ("__debug__" : Str)) = false := by decide) : PMk X (.Call (.Name x p) [] [] pos) (fun _ H Q => Q (.ref C) none H) := by
  intro pins s σ H Q I h
  refine wpAny_Call_Name_kw (ld_glob I hg gC (PySem.W.callWith_K0 I.kIn kC ?_) hdb)
  obtain ⟨bm, N, nm, qn, bs, hdct, sn, sub, ab, col, dd, k0, k1, k2, k3, k5, mN, hC, hN, hni, T⟩ := exc_obj I.kIn q
  exact wpAny_call_exc_subT F T hC hN hni (fun h' e hm => mk_of I hm r h (I.hok.gone hm.new)) (Nat.zero_le _)
end
end Jv

/-! ### binding with defaults -/
namespace Jv
open PySem PySem.Spec PyProof.Rows L2
section
variable {K : PySem.W.Frag} {fd : FuncData} {ps : List Str} {T : Addr} {o : Obj} {its : Array Value} {n : Nat}
theorem bindsD {ds : List Value} {m : Nat} (l : K.lookup T = some o) (hd : o.data = .seq its n) (hm : m + ds.length = ps.length)
    (h : ∀ us : List Value, us.length = m → ∃ k, bindArgs fd ⟨us, []⟩ = seqItems? (.ref T) >>= k ∧ k (some its) = pure (ps.zip (us ++ ds))) : Binds K fd ps ds := fun s us X hl => by
  obtain ⟨k, e1, e2⟩ := h us (by rw [List.length_append] at hl; omega)
  refine BindsTo.of_looks fun M => ?_
  rw [e1]
  exact looks_items X l hd (.of_pure e2)
theorem kbD {m : Nat} {ks : List Str} {g : List Value → List Value → List Value} {gV : List V → List V → List V} (l : K.lookup T = some o) (hd : o.data = .seq its n)
    (h : ∀ us ws : List Value, us.length = m → ws.length = ks.length → ∃ k, bindArgs fd ⟨us, ks.zip ws⟩ = seqItems? (.ref T) >>= k ∧ k (some its) = pure (ps.zip (g us ws)))
    (rel : ∀ {vs : List V} {us : List Value} {zs : List V} {ws : List Value}, Vals vs us → Vals zs ws → Vals (gV vs zs) (g us ws)) : KBn K fd ps m ks g gV := by
  refine ⟨fun s us ws X h1 h2 => ?_, rel⟩
  obtain ⟨k, e1, e2⟩ := h us ws h1 h2
  refine BindsTo.of_looks fun M => ?_
  rw [e1]
  exact looks_items X l hd (.of_pure e2)
end
end Jv
namespace Jv
open PySem PySem.Spec PyProof.Rows L2
section
variable {K : PySem.W.Frag} {σ : L2.St} {H : Hp} {D : Ends} {t u : TS} {te ta tb tc : TE} {g : TG} {tt tu : TT} {tA : TA} {i : Nat} {v x y z : V} {Q : VK} {R : Bool → Hp → Prop}
theorem r_gtup {T : Addr} {xs : List V} {n : Nat} {gs : TGs} {Q : L2.St → Hp → Prop} (h : SqT K H T xs) (hl : xs.length = n) (q : gs xs σ H Q) : gTup K n gs (.ref T) σ H Q := ⟨T, xs, rfl, h, hl, q⟩
theorem r_gcons {gs : TGs} {xs : List V} {Q : L2.St → Hp → Prop} (q : g v σ H fun σ' H' => gs xs σ' H' Q) : gCons g gs (v :: xs) σ H Q := ⟨v, xs, rfl, q⟩
theorem r_gnil {Q : L2.St → Hp → Prop} (q : Q σ H) : gNil [] σ H Q := ⟨rfl, q⟩
theorem r_lc {wi : TI} {vs : List Nat} (h : wi σ H fun J H1 => ∀ D, H1 D = none → ∃ W : Nat → Nat → Hp → Prop, (∃ m, W 0 m (upd H1 D (.lst []))) ∧ ∀ i m H, W i m H →
  (J.stop i H ∧ Q (.ref D) H) ∨ (J.go i H ∧ ∃ Nx : Hp → Prop, (∀ H', Nx H' → ∃ m', m' < m ∧ W (i + 1) m' H') ∧ ∀ x H', J.yld i H x H' → g x (wipe σ vs) H' fun σ2 H2 => wipe σ2 vs = wipe σ vs ∧ tt σ2 H2 fun b H3 =>
    if b = true then te σ2 H3 fun y H4 => ∃ acc, H4 D = some (.lst acc) ∧ acc.length < sizeLine ∧ Nx (upd H4 D (.lst (acc ++ [y]))) else Nx H3)) : tLc wi g tt te vs σ H Q := h
theorem r_iE {P : It → Hp → Prop} {a : Addr} {xs : List V} (h : SqL K H a xs) (q : P (Ite K a) H) : ∃ b ys, [V.ref a] = [.ref b] ∧ SqL K H b ys ∧ P (Ite K b) H := ⟨a, xs, rfl, h, q⟩
theorem r_iEn {P : It → Hp → Prop} (h : tA σ H fun vs H1 => ∃ b ys, vs = [.ref b] ∧ SqL K H1 b ys ∧ P (Ite K b) H1) : iEnum K tA σ H P := h
theorem r_iL {P : It → Hp → Prop} (h : te σ H fun x H1 => ∃ a, x = .ref a ∧ (∃ xs, SqL K H1 a xs) ∧ P (Itl K a) H1) : iList K te σ H P := h
theorem r_iT {P : It → Hp → Prop} (h : te σ H fun x H1 => ∃ a, x = .ref a ∧ (∃ xs, SqT K H1 a xs) ∧ P (Itt K a) H1) : iTup K te σ H P := h
theorem r_yes (q : R true H) : tYes σ H R := q
theorem r_abs {a : Int} {P : Int → Prop} (q : P (if a < 0 then -a else a)) : ∃ i, [V.int a] = [.int i] ∧ P (if i < 0 then -i else i) := ⟨a, rfl, q⟩
theorem r_ift {A B : Prop} (h : A) : if true = true then A else B := by rw [if_pos rfl]; exact h
theorem r_iff {A B : Prop} (h : B) : if false = true then A else B := by rw [if_neg Bool.false_ne_true]; exact h
end
end Jv
namespace Jv
open PySem PySem.Spec PyProof.Rows L2
section
variable {K : PySem.W.Frag} {H H' : Hp} {a p l : Addr} {xs : List V} {o u : HO}
theorem sqL_new (h : SqL K H a xs) (n : H p = none) : SqL K (upd H p u) a xs := (same_new n).seq h
theorem sqT_new (h : SqT K H a xs) (n : H p = none) : SqT K (upd H p u) a xs := Jv.Same.sqT (same_new n) h
theorem sqL_at (h : H a = some (.lst xs)) : SqL K H a xs := .inl (.inl h)
theorem sqT_at (h : H a = some (.tup xs)) : SqT K H a xs := .inl (.inl h)
theorem map_at {f : Int → V} {ns : List Int} {i : Nat} {x : V} (h : (ns.map f)[i]? = some x) : ∃ z, ns[i]? = some z ∧ x = f z := by
  rw [List.getElem?_map] at h
  cases e : ns[i]? with
  | none => rw [e] at h; cases h
  | some z => rw [e] at h; exact ⟨z, rfl, (Option.some.inj h).symm⟩
end
end Jv
namespace Jv
open PySem PySem.Spec PyProof.Rows L2
theorem r_wipe {σ1 σ2 : L2.St} {vs : List Nat} {P : Prop} (e : wipe σ1 vs = wipe σ2 vs) (q : P) : wipe σ1 vs = wipe σ2 vs ∧ P := ⟨e, q⟩
end Jv
namespace Jv
open PySem PySem.Spec PyProof.Rows L2
section
variable {K : PySem.W.Frag} {H : Hp}
def rLenK (K : PySem.W.Frag) : List V → Hp → VK → Prop := fun xs H Q => ∃ x n, xs = [x] ∧ LenV K x H n ∧ Q (.int n) H
theorem cr_len {X : Cx} : CallR X (.builtin "len") (rLenK X.K) := call_len
def rAbs : List V → Hp → VK → Prop := fun xs H Q => ∃ i, xs = [.int i] ∧ Q (.int (if i < 0 then -i else i)) H
theorem cr_abs {X : Cx} : CallR X (.builtin "abs") rAbs := call_abs
def rMin2 : List V → Hp → VK → Prop := fun xs H Q => ∃ i j, xs = [.int i, .int j] ∧ Q (.int (if j < i then j else i)) H
def rMax2 : List V → Hp → VK → Prop := fun xs H Q => ∃ i j, xs = [.int i, .int j] ∧ Q (.int (if j > i then j else i)) H
def rInt : List V → Hp → VK → Prop := fun xs H Q => (∃ i, xs = [.int i] ∧ Q (.int i) H) ∨ ∃ k, xs = [.bl k] ∧ Q (.int (if k then 1 else 0)) H
theorem cr_int {X : Cx} : CallR X (.type "int") rInt := call_int1
def rListOf (K : PySem.W.Frag) : List V → Hp → VK → Prop := fun xs H Q => ∃ p ys, xs = [.ref p] ∧ (SqL K H p ys ∨ SqT K H p ys) ∧ ∀ l, H l = none → Q (.ref l) (upd H l (.lst ys))
def rTupOf (K : PySem.W.Frag) : List V → Hp → VK → Prop := fun xs H Q => ∃ p ys, xs = [.ref p] ∧ ((SqL K H p ys ∧ ∀ l, H l = none → Q (.ref l) (upd H l (.tup ys))) ∨ (SqT K H p ys ∧ Q (.ref p) H))
section
variable {Q : VK}
theorem r_len {p : Addr} {xs : List V} (h : SqL K H p xs ∨ SqT K H p xs) (q : Q (.int xs.length) H) : rLenK K [V.ref p] H Q := ⟨_, xs.length, rfl, by
  rcases h with h | h
  · exact .inl ⟨xs, h, rfl⟩
  · exact .inr ⟨xs, h, rfl⟩, q⟩
theorem r_absN {a : Int} (q : Q (.int (if a < 0 then -a else a)) H) : rAbs [.int a] H Q := ⟨a, rfl, q⟩
theorem r_min {a b : Int} (q : Q (.int (if b < a then b else a)) H) : rMin2 [.int a, .int b] H Q := ⟨a, b, rfl, q⟩
theorem r_max {a b : Int} (q : Q (.int (if b > a then b else a)) H) : rMax2 [.int a, .int b] H Q := ⟨a, b, rfl, q⟩
theorem r_intN {a : Int} (q : Q (.int a) H) : rInt [.int a] H Q := .inl ⟨a, rfl, q⟩
theorem r_listOf {p : Addr} {ys : List V} (h : SqL K H p ys ∨ SqT K H p ys) (q : ∀ l, H l = none → Q (.ref l) (upd H l (.lst ys))) : rListOf K [.ref p] H Q := ⟨p, ys, rfl, h, q⟩
theorem r_tupOfL {p : Addr} {ys : List V} (h : SqL K H p ys) (q : ∀ l, H l = none → Q (.ref l) (upd H l (.tup ys))) : rTupOf K [.ref p] H Q := ⟨p, ys, rfl, .inl ⟨h, q⟩⟩
theorem r_tupOfT {p : Addr} {ys : List V} (h : SqT K H p ys) (q : Q (.ref p) H) : rTupOf K [.ref p] H Q := ⟨p, ys, rfl, .inr ⟨h, q⟩⟩
end
theorem r_decI {A B : Prop} {a b : Int} (h1 : a = b → A) (h2 : a ≠ b → B) : if decide (V.int a = V.int b) = true then A else B := r_dec (fun h => h1 (V.int.inj h)) fun h => h2 fun e => h (by rw [e])
theorem r_ndecI {A B : Prop} {a b : Int} (h1 : a ≠ b → A) (h2 : a = b → B) : if (!decide (V.int a = V.int b)) = true then A else B := r_ndec (fun h => h1 fun e => h (by rw [e])) fun h => h2 (V.int.inj h)
theorem ixN_of {n j : Nat} (hj : j < n) : ixN n (j : Int) = some j := by
  unfold ixN
  rw [if_pos (by omega), if_pos (by omega)]
  simp
end
end Jv
namespace Jv
open PySem PySem.Spec PyProof.Rows L2
theorem at_i {xs : List V} {k : Int} {v : V} (h0 : 0 ≤ k) (h : xs[k.toNat]? = some v) : atI xs k = some v := by
  rw [show k = ((k.toNat : Nat) : Int) by omega]
  exact atI_nat h
theorem map_get {f : Int → V} {ns : List Int} {i : Nat} (h : i < ns.length) : (ns.map f)[i]? = some (f ns[i]) := by
  rw [List.getElem?_map, List.getElem?_eq_getElem h]; rfl
end Jv

/-! ### things of any sort -/
namespace Jv
open PySem PySem.Spec PyProof.Rows L2
/-- a thing that a law hands in: a scalar, or a list, a tuple, a dict that stands -/
def Th (H : Hp) : V → Prop
  | .non => True
  | .bl _ => True
  | .int _ => True
  | .str _ => True
  | .ref a => (∃ xs, H a = some (.lst xs)) ∨ (∃ xs, H a = some (.tup xs)) ∨ ∃ kvs, H a = some (.dK kvs)
  | _ => False
def isB : V → Bool
  | .bl _ => true
  | _ => false
def isI : V → Bool
  | .int _ => true
  | _ => false
/-- a list or a tuple of xs -/
def Sq (H : Hp) (x : V) (xs : List V) : Prop := ∃ a, x = .ref a ∧ (H a = some (.lst xs) ∨ H a = some (.tup xs))
def sqOf (H : Hp) : V → Option (List V)
  | .ref a => match H a with
    | some (.lst xs) => some xs
    | some (.tup xs) => some xs
    | _ => none
  | _ => none
theorem sq_some {H : Hp} {x : V} {xs : List V} (h : sqOf H x = some xs) : Sq H x xs := by
  unfold sqOf at h
  split at h
  · rename_i a
    split at h
    · rename_i ys e; cases h; exact ⟨a, rfl, .inl e⟩
    · rename_i ys e; cases h; exact ⟨a, rfl, .inr e⟩
    · cases h
  · cases h
theorem Sq.of {H : Hp} {x : V} {xs : List V} (h : Sq H x xs) : sqOf H x = some xs := by
  obtain ⟨a, rfl, h | h⟩ := h <;> simp [sqOf, h]
theorem Sq.same {H H' : Hp} {x : V} {xs : List V} (h : Sq H x xs) (s : Same H H') : Sq H' x xs := by
  obtain ⟨a, rfl, h | h⟩ := h
  · exact ⟨a, rfl, .inl (s _ _ h)⟩
  · exact ⟨a, rfl, .inr (s _ _ h)⟩
theorem Sq.th {H : Hp} {x : V} {xs : List V} (h : Sq H x xs) : Th H x := by
  obtain ⟨a, rfl, h | h⟩ := h
  · exact .inl ⟨_, h⟩
  · exact .inr (.inl ⟨_, h⟩)
theorem Th.same {H H' : Hp} {x : V} (h : Th H x) (s : Same H H') : Th H' x := by
  cases x with
  | ref a =>
    rcases h with ⟨xs, h⟩ | ⟨xs, h⟩ | ⟨xs, h⟩
    · exact .inl ⟨xs, s _ _ h⟩
    · exact .inr (.inl ⟨xs, s _ _ h⟩)
    · exact .inr (.inr ⟨xs, s _ _ h⟩)
  | _ => exact h
theorem sqOf_same {H H' : Hp} {x : V} (h : Th H x) (s : Same H H') : sqOf H' x = sqOf H x := by
  cases x with
  | ref a => rcases h with ⟨xs, h⟩ | ⟨xs, h⟩ | ⟨xs, h⟩ <;> simp [sqOf, h, s _ _ h]
  | _ => rfl
section
variable {K : PySem.W.Frag} {H : Hp} {x : V} {Q : VK}
theorem th_ty (h : Th H x) : ∃ t, TyX K H x (.type t) ∧ kitB t "bool" = some (isB x) ∧ kitB t "int" = some (isB x || isI x) ∧ kitB t "list" = some (t == "list") ∧ kitB t "tuple" = some (t == "tuple") ∧ ((t == "list") || (t == "tuple")) = (sqOf H x).isSome := by
  cases x with
  | non => exact ⟨_, .base .non, (by decide +kernel : kitB "NoneType" "bool" = some false), (by decide +kernel : kitB "NoneType" "int" = some false), by decide +kernel, by decide +kernel, (by decide +kernel : (("NoneType" == "list") || ("NoneType" == "tuple")) = false)⟩
  | bl b => exact ⟨_, .base (.bl b), (by decide +kernel : kitB "bool" "bool" = some true), (by decide +kernel : kitB "bool" "int" = some true), by decide +kernel, by decide +kernel, (by decide +kernel : (("bool" == "list") || ("bool" == "tuple")) = false)⟩
  | int i => exact ⟨_, .base (.int i), (by decide +kernel : kitB "int" "bool" = some false), (by decide +kernel : kitB "int" "int" = some true), by decide +kernel, by decide +kernel, (by decide +kernel : (("int" == "list") || ("int" == "tuple")) = false)⟩
  | str i => exact ⟨_, .base (.str i), (by decide +kernel : kitB "str" "bool" = some false), (by decide +kernel : kitB "str" "int" = some false), by decide +kernel, by decide +kernel, (by decide +kernel : (("str" == "list") || ("str" == "tuple")) = false)⟩
  | ref a =>
    rcases h with ⟨xs, h⟩ | ⟨xs, h⟩ | ⟨xs, h⟩
    · exact ⟨_, .base (.lst h), (by decide +kernel : kitB "list" "bool" = some false), (by decide +kernel : kitB "list" "int" = some false), by decide +kernel, by decide +kernel, by simp [sqOf, h]⟩
    · exact ⟨_, .base (.tup h), (by decide +kernel : kitB "tuple" "bool" = some false), (by decide +kernel : kitB "tuple" "int" = some false), by decide +kernel, by decide +kernel, by simp [sqOf, h]⟩
    · exact ⟨_, .base (.dK h), (by decide +kernel : kitB "dict" "bool" = some false), (by decide +kernel : kitB "dict" "int" = some false), by decide +kernel, by decide +kernel, by simp [sqOf, h]⟩
  | byt _ => exact h.elim
  | flt _ => exact h.elim
  | ty _ => exact h.elim
theorem r_isB (h : Th H x) (q : Q (.bl (isB x)) H) : rIsi K [x, .ty "bool"] H Q := by
  obtain ⟨t, h1, h2, _⟩ := th_ty (K := K) h
  exact ⟨x, _, _, _, _, rfl, .ty _, h1, kit_ty h2, q⟩
theorem r_isI (h : Th H x) (q : Q (.bl (isB x || isI x)) H) : rIsi K [x, .ty "int"] H Q := by
  obtain ⟨t, h1, _, h2, _⟩ := th_ty (K := K) h
  exact ⟨x, _, _, _, _, rfl, .ty _, h1, kit_ty h2, q⟩
theorem r_isS {p : Addr} (hp : H p = some (.tup [.ty "list", .ty "tuple"])) (h : Th H x) (q : Q (.bl (sqOf H x).isSome) H) : rIsiT K [x, .ref p] H Q := by
  obtain ⟨t, h1, _, _, h2, h3, h4⟩ := th_ty (K := K) h
  refine ⟨x, p, _, _, _, (sqOf H x).isSome, rfl, hp, .cons (.ty _) (.cons (.ty _) .nil), h1, ?_, q⟩
  refine kitAny_cons (kit_ty h2) (fun e => ?_) fun e => by rw [← h4, e]; rfl
  refine kitAny_cons (kit_ty h3) (fun e2 => ?_) fun e2 => by rw [← h4, e2, Bool.or_true]
  rw [kitAny_nil, ← h4, e, e2]; rfl
theorem r_rfl {a : V} {P : Prop} (q : P) : a = a ∧ P := ⟨rfl, q⟩
end
/-- is_whole's answer -/
def loOk : V → Int → Bool
  | .int l, i => decide (l ≤ i)
  | _, _ => true
def hiOk : V → Int → Bool
  | .int l, i => decide (i ≤ l)
  | _, _ => true
def wholeV : V → V → V → Bool
  | .int i, lo, hi => loOk lo i && hiOk hi i
  | _, _, _ => false
def Bd (x : V) : Prop := x = .non ∨ ∃ i, x = .int i
theorem wholeV_int {x : V} {l h : Int} : wholeV x (.int l) (.int h) = true → ∃ i, x = .int i ∧ l ≤ i ∧ i ≤ h := by
  intro q
  cases x with
  | int i => simp [wholeV, loOk, hiOk] at q; exact ⟨i, rfl, q⟩
  | _ => cases q
end Jv
namespace Jv
open PySem PySem.Spec PyProof.Rows L2
theorem wholeV_lo0 {i a : Int} {hi : V} (h : i < a) : wholeV (.int i) (.int a) hi = false := by
  show (decide (a ≤ i) && hiOk hi i) = false
  rw [decide_eq_false (by omega), Bool.false_and]
theorem wholeV_lo1 {i a : Int} {hi : V} (h : ¬ i < a) : wholeV (.int i) (.int a) hi = hiOk hi i := by
  show (decide (a ≤ i) && hiOk hi i) = _
  rw [decide_eq_true (by omega), Bool.true_and]
theorem r_dec1 {A B p : Prop} {_ : Decidable p} (h : p) (q : A) : if decide p = true then A else B := r_true (decide_eq_true h) q
theorem r_dec0 {A B p : Prop} {_ : Decidable p} (h : ¬ p) (q : B) : if decide p = true then A else B := r_false (decide_eq_false h) q
end Jv

/-! ### walks over a list or a tuple; comprehensions whose elements are told by a function -/
namespace Jv
open PySem PySem.Spec PyProof.Rows L2
theorem piOr {X : Cx} {tg it : Expr} {w1 w2 : TI} (h : PI X tg it w1) (h' : PI X tg it w2) : PI X tg it (fun σ H R => w1 σ H R ∨ w2 σ H R) := ⟨fun pins s σ H R I q => q.elim (h.run pins s σ H R I) (h'.run pins s σ H R I)⟩
section
variable {K : PySem.W.Frag} {σ : L2.St} {H : Hp} {te : TE} {Q : VK} {xs : List V} {j i : Nat} {x : V}
theorem wipe1 {v : Option V} : wipe ((σ.set j none).set j v) [j] = wipe σ [j] := by
  show ((σ.set j none).set j v).set j none = σ.set j none
  rw [List.set_set, List.set_set]
theorem take_more {α : Type} {l : List α} {i : Nat} {x : α} (h : l[i]? = some x) : l.take (i + 1) = l.take i ++ [x] := by
  rw [List.take_add_one, h]; rfl
theorem lcF {J : It} {G : Hp → Prop} (w : Walk J xs.length G (YAt xs)) (hG : ∀ H', Same H H' → G H') (f : V → V) (few : xs.length ≤ 1000)
    (hs : ∀ v H1, v ∈ xs → Same H H1 → ∀ P : VK, (∀ H2, Same H1 H2 → P (f v) H2) → te ((σ.set j none).set j (some v)) H1 P)
    (hd : ∀ D H1, Same H H1 → H D = none → H1 D = some (.lst (xs.map f)) → Q (.ref D) H1) : ∀ D, H D = none → ∃ W : Nat → Nat → Hp → Prop, (∃ m, W 0 m (upd H D (.lst []))) ∧ ∀ i m H, W i m H →
      (J.stop i H ∧ Q (.ref D) H) ∨ (J.go i H ∧ ∃ Nx : Hp → Prop, (∀ H', Nx H' → ∃ m', m' < m ∧ W (i + 1) m' H') ∧ ∀ x H', J.yld i H x H' → gName j x (wipe σ [j]) H' fun σ2 H2 => wipe σ2 [j] = wipe σ [j] ∧ tYes σ2 H2 fun b H3 =>
        if b = true then te σ2 H3 fun y H4 => ∃ acc, H4 D = some (.lst acc) ∧ acc.length < sizeLine ∧ Nx (upd H4 D (.lst (acc ++ [y]))) else Nx H3) := by
  intro D hD
  refine lc_it w (fun i H1 => Same H H1 ∧ H1 D = some (.lst ((xs.take i).map f))) ⟨same_new hD, upd_same⟩ (fun i H1 _ h => hG H1 h.1) ?_ ?_
  · rintro i x H1 H2 hi ⟨s1, e1⟩ ⟨rfl, hx⟩
    refine ⟨wipe1, ?_⟩
    refine r_yes ?_
    refine r_true (c := true) rfl ?_
    refine hs x _ (List.mem_of_getElem? hx) s1 _ fun H3 s3 => ⟨_, s3 _ _ e1, ?_, ?_, ?_⟩
    · rw [List.length_map, List.length_take]; exact small_lt (by omega)
    · intro b o e; exact kpO (s3 _ _ (s1 b o e)) (ne_of_none e hD)
    · rw [upd_same, take_more hx, List.map_append]; rfl
  · rintro H1 ⟨s1, e1⟩
    rw [List.take_length] at e1
    exact hd D H1 s1 hD e1
/-- over a name that holds a list | a tuple | either -/
theorem lcL {a : Addr} (hv : σ[i]? = some (some (.ref a))) (hx : SqL K H a xs) (f : V → V) (few : xs.length ≤ 1000)
    (hs : ∀ v H1, v ∈ xs → Same H H1 → ∀ P : VK, (∀ H2, Same H1 H2 → P (f v) H2) → te ((σ.set j none).set j (some v)) H1 P)
    (hd : ∀ D H1, Same H H1 → H D = none → H1 D = some (.lst (xs.map f)) → Q (.ref D) H1) : tLc (iList K (tVar i)) (gName j) tYes te [j] σ H Q :=
  ⟨_, hv, a, rfl, ⟨xs, hx⟩, lcF walk_list (fun H' s => s.seq hx) f few hs hd⟩
theorem lcT {a : Addr} (hv : σ[i]? = some (some (.ref a))) (hx : SqT K H a xs) (f : V → V) (few : xs.length ≤ 1000)
    (hs : ∀ v H1, v ∈ xs → Same H H1 → ∀ P : VK, (∀ H2, Same H1 H2 → P (f v) H2) → te ((σ.set j none).set j (some v)) H1 P)
    (hd : ∀ D H1, Same H H1 → H D = none → H1 D = some (.lst (xs.map f)) → Q (.ref D) H1) : tLc (iTup K (tVar i)) (gName j) tYes te [j] σ H Q :=
  ⟨_, hv, a, rfl, ⟨xs, hx⟩, lcF walk_tup (fun H' s => Jv.Same.sqT s hx) f few hs hd⟩
theorem lcS (hv : σ[i]? = some (some x)) (hx : Sq H x xs) (f : V → V) (few : xs.length ≤ 1000)
    (hs : ∀ v H1, v ∈ xs → Same H H1 → ∀ P : VK, (∀ H2, Same H1 H2 → P (f v) H2) → te ((σ.set j none).set j (some v)) H1 P)
    (hd : ∀ D H1, Same H H1 → H D = none → H1 D = some (.lst (xs.map f)) → Q (.ref D) H1) : tLc (fun σ H R => iList K (tVar i) σ H R ∨ iTup K (tVar i) σ H R) (gName j) tYes te [j] σ H Q := by
  obtain ⟨a, rfl, h | h⟩ := hx
  · exact .inl (lcL hv (sqL_at h) f few hs hd)
  · exact .inr (lcT hv (sqT_at h) f few hs hd)
theorem r_all {D : Addr} {f : V → Bool} (h : H D = some (.lst (xs.map fun v => V.bl (f v)))) (q : Q (.bl (xs.all f)) H) : rAll K [.ref D] H Q := by
  refine ⟨D, xs.map f, rfl, sqL_at (by rw [h, List.map_map]; rfl), ?_⟩
  rw [List.all_map]; exact q
theorem Sq.len (h : Sq H x xs) (q : Q (.int xs.length) H) : rLenK K [x] H Q := by
  obtain ⟨a, rfl, h | h⟩ := h
  · exact r_len (.inl (sqL_at h)) q
  · exact r_len (.inr (sqT_at h)) q
theorem Sq.ix (h : Sq H x xs) {k : Int} {v : V} (e : atI xs k = some v) (q : Q v H) : rIx K x (.int k) H Q := by
  obtain ⟨a, rfl, h | h⟩ := h
  · exact .inl (r_ixL (sqL_at h) e q)
  · exact .inr (.inl (r_ixT (sqT_at h) e q))
end
end Jv

/-! ### sorted(t) of a tuple of ints -/
namespace JvS
open PySem PySem.Spec PyProof.Rows L2 SrtO
section
variable {P : Program} {w : World} {A : Around} {E : Value → Shared → Prop} {s : Shared}
/-- the list that collect makes -/
abbrev colH (h : Heap) (vs : List Value) : Heap := (h.push (seqObj "list" #[] 0)).update h.objs.size (Obj.mapSeq (· ++ vs.toArray))
theorem collect_tup {l : Addr} {vs : List Value} {Q : List Value → Shared → Prop} (hl : s.heap.IsTuple l vs.toArray) (h : Q vs { s with heap := colH s.heap vs }) (hsz : vs.length ≤ sizeLine) :
    wpAny (model P w) A (collect (.ref l)) Q E s := by
  obtain ⟨o, ho, hc, n, hd⟩ := id hl
  have ho2 : (s.heap.push (seqObj "list" #[] 0)).get? l = some o := Heap.get?_push_of_some _ ho
  have new : (s.heap.push (seqObj "list" #[] 0)).get? s.heap.objs.size = some (seqObj "list" #[] 0) := Heap.get?_push_size _ rfl
  unfold collect
  refine wpAny_bind (wpAny_runValue (codeAny_builtin entry_proto_collect' (show wpAny _ _ (do again (.builtin "list.__iadd__" ⟨[← newList [], .ref l], []⟩)) _ _ s from
    wpAny_bind (wpAny_newList (wpAny_pure ⟨Code.quiet_builtin _ (by decide +kernel), codeAny_builtin entry_list_iadd' ?_⟩)))))
  show wpAny _ _ (Builtin.List.listExtendWith (.ref s.heap.objs.size) (.ref l) (.ref s.heap.objs.size)) _ _ { s with heap := s.heap.push (seqObj "list" #[] 0) }
  unfold Builtin.List.listExtendWith
  refine wpAny_bind (wpAny_typeOf (T := "tuple") ⟨o, ho2, hc⟩ ?_)
  rw [if_pos (by have e : (Value.type "tuple" == Value.type "tuple") = true := rfl
                 rw [e]; simp)]
  refine wpAny_bind (listItems_at ho2 hd (wpAny_bind (listItems_at (xs := #[]) (n := 0) new rfl ?_)))
  rw [if_neg (by simp)]
  refine wpAny_bind (listUpdate_at (xs := #[]) (n := 0) new rfl (wpAny_pure ?_) (Nat.zero_le _) (by show (#[] ++ vs.toArray).size ≤ sizeLine + 1; simp; omega))
  show wpAny (model P w) A (do
      let o ← load s.heap.objs.size
      match o.data with
      | .seq ys _ => pure ys.toList
      | _ => unsupported "internal:collect") Q E { s with heap := colH s.heap vs }
  refine wpAny_bind (wpAny_load (get?_update_seq new _) (show wpAny _ _ (pure ((#[] : Array Value) ++ vs.toArray).toList) Q E _ from ?_))
  rw [show ((#[] : Array Value) ++ vs.toArray).toList = vs by simp]
  exact wpAny_pure h
theorem sorted_tup {l : Addr} {vs : List Value} {ltv : Value → Value → Bool} {Q : Value → Shared → Prop} (O : Swo ltv) (hl : s.heap.IsTuple l vs.toArray) (hz : vs.length ≤ sizeLine)
    (hS : 2 ≤ vs.length → ∀ (h₁ : Heap) (a : Addr), h₁.get? a = some (seqObj "list" vs.toArray 0) → (∀ b o, s.heap.get? b = some o → b ≠ a ∧ h₁.get? b = some o) → SortableO P w A.in1.in1 { s with heap := h₁ } a vs ltv)
    (h : ∀ out : List Value, Srtd ltv out → Stb ltv out vs → Q (.ref (s.heap.objs.size + 1)) { s with heap := sortedAll s.heap vs out.toArray }) :
    wpAny (model P w) A (call (.builtin "sorted") [.ref l]) Q E s := by
  refine Calls.call_function_entry kind_sorted plain_sorted entry_sorted (args_sorted1 _) ?_
  unfold Builtin.«sorted»
  refine wpAny_bind (m := checkCount "sorted" 1 1 _) (wpAny_pure (wpAny_bind (collect_tup hl (wpAny_bind (wpAny_newList ?_ hz)) hz)))
  have size1 : (colH s.heap vs).objs.size = s.heap.objs.size + 1 := by rw [Heap.size_update, size_push']
  have at2 : ((colH s.heap vs).push (seqObj "list" vs.toArray 0)).get? (s.heap.objs.size + 1) = some (seqObj "list" vs.toArray 0) := by
    rw [← size1]; exact Heap.get?_push_size _ rfl
  have old : ∀ b o, s.heap.get? b = some o → b ≠ s.heap.objs.size + 1 ∧ ((colH s.heap vs).push (seqObj "list" vs.toArray 0)).get? b = some o := fun b o q => by
    have lt := Heap.lt_size q
    refine ⟨Nat.ne_of_lt (Nat.lt_succ_of_lt lt), Heap.get?_push_of_some _ ?_⟩
    rw [Heap.get?_update_ne _ _ _ _ (Nat.ne_of_lt lt)]
    exact Heap.get?_push_of_some _ q
  show wpAny _ _ _ _ _ { s with heap := (colH s.heap vs).push (seqObj "list" vs.toArray 0) }
  rw [size1]
  refine wpAny_bind (wpAny_holding (wpAny_call_entry slot_list_sort ⟨_, at2, rfl⟩ entry_list_sort (list_sort_ord O at2 hz (fun h2 => hS h2 _ _ at2 old) fun out a b => ⟨_, rfl, wpAny_pure ⟨_, rfl, h out a b⟩⟩) (args_list_sort _)))
end
end JvS
namespace Jv
open PySem PySem.Spec PyProof.Rows L2
section
variable {X : Cx}
/-- sorted(x), x a list or a tuple of ints -/
def rSortIT (K : PySem.W.Frag) : List V → Hp → VK → Prop := fun vs H Q => ∃ (a : Addr) (ns : List Int), vs = [V.ref a] ∧ (SqL K H a (ns.map V.int) ∨ SqT K H a (ns.map V.int)) ∧
  ∀ (ns' : List Int) (p : Addr), ns'.Perm ns → ns'.Pairwise (· ≤ ·) → H p = none → Q (.ref p) (upd H p (.lst (ns'.map V.int)))
theorem cr_sortIT : CallR X (.builtin "sorted") (rSortIT X.K) := by
  intro pins s σ H vs us Q I r h
  obtain ⟨a, ns, rfl, hs | hs, q⟩ := h
  · exact cr_sortedI pins s σ H _ us Q I r ⟨a, ns, rfl, hs, q⟩
  · obtain ⟨its, rv, ht, hz⟩ := I.tuple hs
    rw [Vals.ref1 r]
    have hi := rv.ints
    rw [List.length_map] at hz
    have hz2 : its.length ≤ sizeLine := by rw [← rv.length, List.length_map]; exact hz
    refine JvS.sorted_tup SrtO.swo_int (show s.heap.IsTuple a its.toArray from ht) hz2 (fun h2 _ _ _ _ => SrtO.ints_sortable hi h2) fun out h1 h2 => ?_
    obtain ⟨k1, k2, k3⟩ := SrtO.ints_out hi h1 h2
    obtain ⟨ep, he⟩ := PyProof.Rows.sortedAll_at s.heap its out.toArray
    refine ⟨.ref _, upd H (s.heap.objs.size + 1) (.lst ((out.map SrtO.iv).map V.int)), I.laid (t' := s.toks) (fun _ _ => PyProof.Rows.sortedAll_old) (Nat.le_succ _) ⟨?_, out, ep, vals_of_ints k1, he⟩, rfl, q _ _ k2 k3 (I.hok.fresh (Nat.le_succ _))⟩
    rw [List.length_map, k2.length_eq]; exact hz
end
/-! ### data of ints -/
theorem canAll_ints : ∀ ns : List Int, PyData.canLayAll0 (ns.map PyData.int) = true
  | [] => by simp [PyData.canLayAll0]
  | a :: r => by simp [PyData.canLayAll0, PyData.canLay0, canAll_ints r]
theorem depAll_ints : ∀ ns : List Int, PyData.depthAll (ns.map PyData.int) = 0
  | [] => by simp [PyData.depthAll]
  | a :: r => by simp [PyData.depthAll, PyData.depth, depAll_ints r]
theorem shapedL (ns : List Int) : SeqAt.shaped (.list (ns.map .int)) = true := by simp [SeqAt.shaped, PyData.canLay0, PyData.depth, canAll_ints, depAll_ints]
theorem shapedT (ns : List Int) : SeqAt.shaped (.tuple (ns.map .int)) = true := by simp [SeqAt.shaped, PyData.canLay0, PyData.depth, canAll_ints, depAll_ints]
theorem eqvAll_ints : ∀ a b : List Int, PyData.eqvAll (a.map .int) (b.map .int) = decide (a = b)
  | [], [] => by simp [PyData.eqvAll]
  | [], _ :: _ => by simp [PyData.eqvAll]
  | _ :: _, [] => by simp [PyData.eqvAll]
  | x :: a, y :: b => by
    simp only [List.map_cons, PyData.eqvAll, PyData.eqv, eqvAll_ints a b]
    by_cases h : x = y <;> by_cases g : a = b <;> simp [h, g]
theorem eqvL (a b : List Int) : PyData.eqv (.list (a.map .int)) (.list (b.map .int)) = decide (a = b) := by rw [PyData.eqv, eqvAll_ints]
theorem eqvT (a b : List Int) : PyData.eqv (.tuple (a.map .int)) (.tuple (b.map .int)) = decide (a = b) := by rw [PyData.eqv, eqvAll_ints]
section
variable {K : PySem.W.Frag} {H : Hp}
theorem dpAll_ints : ∀ ns : List Int, DpAll K H (ns.map V.int) (ns.map PyData.int)
  | [] => .nil
  | a :: r => .cons (.int a) (dpAll_ints r)
theorem dpL {a : Addr} {ns : List Int} (h : SqL K H a (ns.map V.int)) : Dp K H (.ref a) (.list (ns.map .int)) := .lst h (dpAll_ints ns)
theorem dpT {a : Addr} {ns : List Int} (h : SqT K H a (ns.map V.int)) : Dp K H (.ref a) (.tuple (ns.map .int)) := .tup h (dpAll_ints ns)
end
end Jv

/-! ### kinds, lots, orders -/
namespace Jv
open PySem PySem.Spec PyProof.Rows L2
def intsV : List V → Option (List Int)
  | [] => some []
  | .int i :: r => (intsV r).map (i :: ·)
  | _ :: _ => none
theorem iv_map : ∀ ns : List Int, intsV (ns.map V.int) = some ns
  | [] => rfl
  | a :: r => by simp [intsV, iv_map r]
theorem iv_of : ∀ {xs : List V} {ns : List Int}, intsV xs = some ns → xs = ns.map V.int
  | [], ns, h => by cases h; rfl
  | .int i :: r, ns, h => by
    cases e : intsV r with
    | none => simp [intsV, e] at h
    | some m => simp [intsV, e] at h; subst h; rw [iv_of e]; rfl
  | .non :: _, _, h => by cases h
  | .bl _ :: _, _, h => by cases h
  | .str _ :: _, _, h => by cases h
  | .byt _ :: _, _, h => by cases h
  | .flt _ :: _, _, h => by cases h
  | .ref _ :: _, _, h => by cases h
  | .ty _ :: _, _, h => by cases h
/-- what a sequence's items must be for the program to look at them -/
def ThS (H : Hp) (x : V) : Prop := Th H x ∧ ∀ xs, Sq H x xs → xs.length ≤ 60 ∧ ∀ v ∈ xs, Th H v
theorem ThS.same {H H' : Hp} {x : V} (h : ThS H x) (s : Same H H') : ThS H' x := ⟨h.1.same s, fun xs q => by
  have e := q.of
  rw [sqOf_same h.1 s] at e
  obtain ⟨a, b⟩ := h.2 xs (sq_some e)
  exact ⟨a, fun v m => (b v m).same s⟩⟩
def kindsB (H : Hp) (x : V) (k : Int) : Bool := match sqOf H x with
  | some xs => xs.all fun v => wholeV v (.int 0) (.int (k - 1))
  | none => false
def inK (k : Int) (ns : List Int) : Prop := ∀ n ∈ ns, 0 ≤ n ∧ n ≤ k - 1
theorem whole_all {k : Int} : ∀ {xs : List V}, (xs.all fun v => wholeV v (.int 0) (.int (k - 1))) = true → ∃ ns, xs = ns.map V.int ∧ inK k ns
  | [], _ => ⟨[], rfl, fun _ h => by cases h⟩
  | x :: r, h => by
    rw [List.all_cons, Bool.and_eq_true] at h
    obtain ⟨i, rfl, h1, h2⟩ := wholeV_int h.1
    obtain ⟨ns, rfl, h3⟩ := whole_all h.2
    refine ⟨i :: ns, rfl, fun n hn => ?_⟩
    rcases List.mem_cons.mp hn with rfl | hn
    · exact ⟨h1, h2⟩
    · exact h3 n hn
theorem all_whole {k : Int} {ns : List Int} (h : inK k ns) : ((ns.map V.int).all fun v => wholeV v (.int 0) (.int (k - 1))) = true := by
  rw [List.all_map, List.all_eq_true]
  intro n hn
  obtain ⟨a, b⟩ := h n hn
  show (decide (0 ≤ n) && decide (n ≤ k - 1)) = true
  rw [decide_eq_true a, decide_eq_true b]; rfl
instance {k : Int} {ns : List Int} : Decidable (inK k ns) := inferInstanceAs (Decidable (∀ n ∈ ns, _))
theorem whole_all_iff {k : Int} {ns : List Int} : ((ns.map V.int).all fun v => wholeV v (.int 0) (.int (k - 1))) = decide (inK k ns) := by
  by_cases h : inK k ns
  · rw [all_whole h, decide_eq_true h]
  · rw [decide_eq_false h]
    cases e : (ns.map V.int).all fun v => wholeV v (.int 0) (.int (k - 1)) with
    | false => rfl
    | true =>
      obtain ⟨ms, e2, h2⟩ := whole_all e
      have e3 : ns = ms := by have q := iv_map ns; rw [e2, iv_map] at q; cases q; rfl
      exact absurd (e3 ▸ h2) h
theorem sorted_ext : ∀ {a b : List Int}, a.Pairwise (· < ·) → b.Pairwise (· < ·) → (∀ n, n ∈ a ↔ n ∈ b) → a = b
  | [], [], _, _, _ => rfl
  | [], y :: _, _, _, h => absurd ((h y).mpr List.mem_cons_self) (by simp)
  | x :: _, [], _, _, h => absurd ((h x).mp List.mem_cons_self) (by simp)
  | x :: a, y :: b, ha, hb, h => by
    have ha' := List.pairwise_cons.mp ha
    have hb' := List.pairwise_cons.mp hb
    have e : x = y := by
      rcases List.mem_cons.mp ((h x).mp List.mem_cons_self) with e | m1
      · exact e
      · rcases List.mem_cons.mp ((h y).mpr List.mem_cons_self) with e | m2
        · exact e.symm
        · have q1 := hb'.1 x m1
          have q2 := ha'.1 y m2
          omega
    subst e
    congr 1
    refine sorted_ext ha'.2 hb'.2 fun n => ⟨fun m => ?_, fun m => ?_⟩
    · rcases List.mem_cons.mp ((h n).mp (List.mem_cons_of_mem _ m)) with e | q
      · subst e; exact absurd (ha'.1 n m) (by omega)
      · exact q
    · rcases List.mem_cons.mp ((h n).mpr (List.mem_cons_of_mem _ m)) with e | q
      · subst e; exact absurd (hb'.1 n m) (by omega)
      · exact q
def lotP (k : Int) (ns : List Int) : Prop := inK k ns ∧ 0 < ns.length ∧ ns.Pairwise (· < ·)
instance {k : Int} {ns : List Int} : Decidable (lotP k ns) := inferInstanceAs (Decidable (_ ∧ _))
def lotV (H : Hp) (x : V) (k : Int) : Bool := match sqOf H x with
  | some xs => match intsV xs with
    | some ns => decide (lotP k ns)
    | none => false
  | none => false
theorem set_eq {ns ms : List Int} (h1 : ms.Pairwise (· < ·)) (h2 : ∀ k : Int, k ∈ ms ↔ decide (k ∈ ns) = true) : (ns = ms) ↔ ns.Pairwise (· < ·) :=
  ⟨fun e => e ▸ h1, fun h => sorted_ext h h1 fun n => by rw [h2 n, decide_eq_true_iff]⟩
def orderP (k : Int) (ns : List Int) : Prop := inK k ns ∧ ns.Perm ((List.range k.toNat).map fun (i : Nat) => (i : Int))
instance {k : Int} {ns : List Int} : Decidable (orderP k ns) := inferInstanceAs (Decidable (_ ∧ _))
theorem range_sorted (n : Nat) : ((List.range n).map fun (i : Nat) => (i : Int)).Pairwise (· ≤ ·) := by
  rw [List.pairwise_map]
  exact List.pairwise_lt_range.imp fun h => by omega
theorem sorted_perm {a b : List Int} (ha : a.Pairwise (· ≤ ·)) (hb : b.Pairwise (· ≤ ·)) (h : a.Perm b) : a = b :=
  List.Perm.eq_of_pairwise (fun x y _ _ h1 h2 => by omega) ha hb h
def orderV (H : Hp) (x : V) (k : Int) : Bool := match sqOf H x with
  | some xs => match intsV xs with
    | some ns => decide (orderP k ns)
    | none => false
  | none => false
end Jv
namespace Jv
open PySem PySem.Spec PyProof.Rows L2
section
variable {H : Hp} {x : V} {k : Int} {ns : List Int}
theorem lotV_of (e : sqOf H x = some (ns.map V.int)) : lotV H x k = decide (lotP k ns) := by
  unfold lotV; rw [e]; dsimp only; rw [iv_map]
theorem orderV_of (e : sqOf H x = some (ns.map V.int)) : orderV H x k = decide (orderP k ns) := by
  unfold orderV; rw [e]; dsimp only; rw [iv_map]
theorem kindsB_of (e : sqOf H x = some (ns.map V.int)) : kindsB H x k = decide (inK k ns) := by
  unfold kindsB; rw [e]; exact whole_all_iff
theorem kindsB_true (h : kindsB H x k = true) : ∃ ns, sqOf H x = some (ns.map V.int) ∧ inK k ns := by
  unfold kindsB at h
  cases e : sqOf H x with
  | none => rw [e] at h; cases h
  | some xs =>
    rw [e] at h
    obtain ⟨ns, rfl, q⟩ := whole_all h
    exact ⟨ns, rfl, q⟩
theorem lotV_false (h : kindsB H x k = false) : lotV H x k = false := by
  cases e : sqOf H x with
  | none => unfold lotV; rw [e]
  | some xs =>
    cases e2 : intsV xs with
    | none => unfold lotV; rw [e]; dsimp only; rw [e2]
    | some ns =>
      obtain rfl := iv_of e2
      rw [lotV_of e, decide_eq_false]
      rintro ⟨h1, _⟩
      rw [kindsB_of e, decide_eq_true h1] at h; cases h
theorem orderV_false (h : kindsB H x k = false) : orderV H x k = false := by
  cases e : sqOf H x with
  | none => unfold orderV; rw [e]
  | some xs =>
    cases e2 : intsV xs with
    | none => unfold orderV; rw [e]; dsimp only; rw [e2]
    | some ns =>
      obtain rfl := iv_of e2
      rw [orderV_of e, decide_eq_false]
      rintro ⟨h1, _⟩
      rw [kindsB_of e, decide_eq_true h1] at h; cases h
theorem lotV_true (h : lotV H x k = true) : ∃ ns, sqOf H x = some (ns.map V.int) ∧ lotP k ns := by
  cases e : sqOf H x with
  | none => unfold lotV at h; rw [e] at h; cases h
  | some xs =>
    cases e2 : intsV xs with
    | none => unfold lotV at h; rw [e] at h; dsimp only at h; rw [e2] at h; cases h
    | some ns =>
      obtain rfl := iv_of e2
      rw [lotV_of e] at h
      exact ⟨ns, rfl, of_decide_eq_true h⟩
theorem Sq.or {K : PySem.W.Frag} {a : Addr} {xs : List V} (h : H a = some (.lst xs) ∨ H a = some (.tup xs)) : SqL K H a xs ∨ SqT K H a xs := h.elim (fun h => .inl (sqL_at h)) fun h => .inr (sqT_at h)
end
end Jv
namespace Jv
open PySem PySem.Spec PyProof.Rows L2
theorem rgV0 {k : Int} : rgV 0 k = ((List.range k.toNat).map fun (i : Nat) => (i : Int)).map V.int := by
  unfold rgV
  rw [List.map_map, Int.sub_zero]
  refine List.map_congr_left fun i _ => ?_
  show V.int (0 + (i : Int)) = V.int i
  rw [Int.zero_add]
end Jv

/-! ### pairs of two ranges; data as lists of pairs -/
namespace Jv
open PySem PySem.Spec PyProof.Rows L2
/-- references to tuples of two ints that stand -/
def Tups (H : Hp) (refs : List V) (prs : List (Int × Int)) : Prop := Paired (fun v (pr : Int × Int) => ∃ t, v = V.ref t ∧ H t = some (.tup [.int pr.1, .int pr.2])) refs prs
theorem Paired.mono' {α β : Type} {F G : α → β → Prop} (h : ∀ a b, F a b → G a b) : ∀ {xs : List α} {ys : List β}, Paired F xs ys → Paired G xs ys
  | _, _, .nil => .nil
  | _, _, .cons r t => .cons (h _ _ r) (Paired.mono' h t)
theorem Paired.snoc {α β : Type} {F : α → β → Prop} {a : α} {b : β} (h : F a b) : ∀ {xs : List α} {ys : List β}, Paired F xs ys → Paired F (xs ++ [a]) (ys ++ [b])
  | _, _, .nil => .cons h .nil
  | _, _, .cons r t => .cons r (Paired.snoc h t)
theorem Tups.same {H H' : Hp} {refs : List V} {prs : List (Int × Int)} (h : Tups H refs prs) (s : Same H H') : Tups H' refs prs := Paired.mono' (fun _ _ ⟨t, e, q⟩ => ⟨t, e, s _ _ q⟩) h
theorem Tups.upd {H : Hp} {D : Addr} {o : HO} {refs : List V} {prs : List (Int × Int)} (h : Tups H refs prs) (n : ∀ xs, H D ≠ some (.tup xs)) : Tups (L2.upd H D o) refs prs :=
  Paired.mono' (fun _ _ ⟨t, e, q⟩ => ⟨t, e, by rw [upd_ne]; exact q; intro z; rw [z] at q; exact n _ q⟩) h
def pairsTo (q i j : Nat) : List (Int × Int) := ((List.range i).flatMap fun (e : Nat) => (List.range q).map fun (w : Nat) => ((e : Int), (w : Int))) ++ (List.range j).map fun (w : Nat) => ((i : Int), (w : Int))
def prs (p q : Nat) : List (Int × Int) := pairsTo q p 0
theorem pairsTo_next (q i : Nat) : pairsTo q i q = pairsTo q (i + 1) 0 := by
  unfold pairsTo
  rw [List.range_succ, List.flatMap_append]
  simp
theorem pairsTo_more (q i j : Nat) : pairsTo q i (j + 1) = pairsTo q i j ++ [((i : Int), (j : Int))] := by
  unfold pairsTo
  rw [List.range_succ (n := j), List.map_append, List.append_assoc]; rfl
theorem pairsTo_len (q i j : Nat) : (pairsTo q i j).length = i * q + j := by
  unfold pairsTo
  rw [List.length_append, List.length_map, List.length_range]
  congr 1
  induction i with
  | zero => simp
  | succ i ih => rw [List.range_succ, List.flatMap_append, List.length_append, ih]; simp [Nat.succ_mul]
section
variable {σ : L2.St} {H : Hp} {ta tb : TA} {te : TE} {Q : VK} {a b p q : Nat}
theorem lc2R (hp : p ≤ 20) (hq : q ≤ 20) (w1 : ∀ x, wipe ((wipe σ [a, b]).set a (some x)) [a, b] = wipe σ [a, b])
    (w2 : ∀ x y, wipe ((wipe ((wipe σ [a, b]).set a (some x)) [b]).set b (some y)) [b] = wipe ((wipe σ [a, b]).set a (some x)) [b])
    (hta : ∀ P : List V → Hp → Prop, P [.int p] H → ta σ H P)
    (htb : ∀ (i : Nat) H1, i < p → Same H H1 → ∀ P : List V → Hp → Prop, P [.int q] H1 → tb ((wipe σ [a, b]).set a (some (.int i))) H1 P)
    (hte : ∀ (i j : Nat) H1, i < p → j < q → Same H H1 → ∀ P : VK, (∀ t H2, Same H1 H2 → H1 t = none → H2 t = some (.tup [.int i, .int j]) → P (.ref t) H2) → te ((wipe ((wipe σ [a, b]).set a (some (.int i))) [b]).set b (some (.int j))) H1 P)
    (hd : ∀ D refs H1, Same H H1 → H D = none → H1 D = some (.lst refs) → Tups H1 refs (prs p q) → Q (.ref D) H1) :
    tLc2 (iRng1 ta) (gName a) tYes (iRng1 tb) (gName b) tYes te [a, b] [b] σ H Q := by
  refine hta _ ⟨p, rfl, by omega, by omega, fun D hD => ?_⟩
  have key : ∀ (i j : Nat) H1, (∃ refs, Same H H1 ∧ H1 D = some (.lst refs) ∧ Tups H1 refs (pairsTo q i j)) → ∃ refs, Same H H1 ∧ H1 D = some (.lst refs) ∧ Tups H1 refs (pairsTo q i j) := fun _ _ _ h => h
  refine ⟨fun i m H1 => m = p - i ∧ i ≤ p ∧ ∃ refs, Same H H1 ∧ H1 D = some (.lst refs) ∧ Tups H1 refs (pairsTo q i 0), ⟨p, by omega, by omega, [], same_new hD, upd_same, .nil⟩, ?_⟩
  rintro i m H1 ⟨rfl, hi, refs, s1, e1, t1⟩
  by_cases lt : i < p
  · refine .inr ⟨by show i < (p : Int).toNat; omega, fun H' => ∃ refs, Same H H' ∧ H' D = some (.lst refs) ∧ Tups H' refs (pairsTo q (i + 1) 0), fun H' h => ⟨p - (i + 1), by omega, rfl, lt, h⟩, ?_⟩
    rintro x H2 ⟨rfl, rfl⟩
    rw [Int.zero_add]
    refine ⟨w1 _, r_yes (r_true (c := true) rfl ?_)⟩
    refine htb i _ lt s1 _ ⟨q, rfl, by omega, by omega, ?_⟩
    refine ⟨fun j k H1 => k = q - j ∧ j ≤ q ∧ ∃ refs, Same H H1 ∧ H1 D = some (.lst refs) ∧ Tups H1 refs (pairsTo q i j), ⟨q, by omega, by omega, refs, s1, e1, t1⟩, ?_⟩
    rintro j k H3 ⟨rfl, hj, refs, s3, e3, t3⟩
    by_cases lt2 : j < q
    · refine .inr ⟨by show j < (q : Int).toNat; omega, fun H' => ∃ refs, Same H H' ∧ H' D = some (.lst refs) ∧ Tups H' refs (pairsTo q i (j + 1)), fun H' h => ⟨q - (j + 1), by omega, rfl, lt2, h⟩, ?_⟩
      rintro y H4 ⟨rfl, rfl⟩
      rw [Int.zero_add]
      refine ⟨w2 _ _, r_yes (r_true (c := true) rfl ?_)⟩
      refine hte i j _ lt lt2 s3 _ fun t H5 s5 ht h5 => ⟨refs, s5 _ _ e3, ?_, refs ++ [.ref t], ?_, upd_same, ?_⟩
      · have h1 := Paired.length t3
        have h2 := pairsTo_len q i j
        have h3 : i * q ≤ 20 * 20 := Nat.mul_le_mul (by omega) (by omega)
        exact small_lt (by omega)
      · intro c o hc
        exact kpO (s5 _ _ (s3 _ _ hc)) (ne_of_none hc hD)
      · rw [pairsTo_more]
        refine Tups.upd (Paired.snoc ⟨t, rfl, h5⟩ (t3.same s5)) fun xs z => ?_
        have := s5 _ _ e3
        rw [this] at z; cases z
    · have ej : j = q := by omega
      subst ej
      refine .inl ⟨by show (j : Int).toNat ≤ j; omega, refs, s3, e3, ?_⟩
      rw [← pairsTo_next]; exact t3
  · have ei : i = p := by omega
    subst ei
    exact .inl ⟨by show (i : Int).toNat ≤ i; omega, hd D refs _ s1 hD e1 t1⟩
end
end Jv
namespace Jv
open PySem PySem.Spec PyProof.Rows L2
theorem log_small {m : Int} (h0 : 0 < m) (h1 : m < 2 ^ 200) : m.natAbs.log2 < 9000 := Nat.lt_trans (PySem.Flt.log2_lt_of (n := m.natAbs) (k := 200) (by decide) (by omega)) (by decide)
theorem cdivS {i m : Int} (h0 : 0 < m) (h1 : m < 2 ^ 200) : CDivW i m := ⟨h0, log_small h0 h1⟩
end Jv
namespace Jv
open PySem PySem.Spec PyProof.Rows L2
section
variable {K : PySem.W.Frag} {σ : L2.St} {H : Hp} {Q : VK} {to : TE} {t : TA} {y : V}
theorem r_bm {T : String} {r : V → List V → Hp → VK → Prop} (h : to σ H fun x H1 => tyV K T x H1 ∧ t σ H1 fun xs H2 => r x xs H2 Q) : tBM K T r to t σ H Q := h
theorem r_tyL {p : Addr} {xs : List V} {P : Prop} (h : H p = some (.lst xs)) (q : P) : tyV K "list" (.ref p) H ∧ P := ⟨.inl ⟨rfl, xs, sqL_at h⟩, q⟩
theorem r_app {l : Addr} {xs : List V} (h : H l = some (.lst xs)) (hz : xs.length < 1000) (q : Q .non (upd H l (.lst (xs ++ [y])))) : rAppend (.ref l) [y] H Q := ⟨l, xs, y, rfl, rfl, h, small_lt hz, q⟩
theorem seqIx {k : Int} {n : Nat} (h0 : 0 ≤ k) (h1 : k.toNat < n) : seqIndex? k n = some k.toNat := by
  unfold seqIndex?
  simp; omega
theorem r_popAt {l : Addr} {xs : List V} {k : Int} (h : H l = some (.lst xs)) (h0 : 0 ≤ k) (h1 : k < 1000) (e : xs[k.toNat]? = some y) (q : Q y (upd H l (.lst (xs.eraseIdx k.toNat)))) : rPopAt (.ref l) [.int k] H Q :=
  ⟨l, xs, k, k.toNat, y, rfl, rfl, h, by omega, by omega, seqIx h0 (List.getElem?_eq_some_iff.mp e).1, e, q⟩
theorem erase_perm : ∀ {l : List Int} {k : Nat} {z : Int}, l[k]? = some z → (z :: l.eraseIdx k).Perm l
  | [], k, z, h => by simp at h
  | a :: r, 0, z, h => by
    have e : a = z := Option.some.inj h
    subst e; exact .refl _
  | a :: r, k + 1, z, h => (List.Perm.swap a z _).trans (List.Perm.cons a (erase_perm (l := r) (k := k) h))
theorem pop_perm {ns ms : List Int} {k : Nat} {z : Int} (e : ms[k]? = some z) : ((ns ++ [z]) ++ ms.eraseIdx k).Perm (ns ++ ms) := by
  rw [List.append_assoc]
  exact List.Perm.append_left ns (erase_perm e)
def rgI (n : Nat) : List Int := (List.range n).map fun (i : Nat) => (i : Int)
end
theorem rises_no {ns : List Int} {k b z : Int} {i : Nat} (hz : ns[i]? = some z) (hb : b = -1 ∨ b ∈ ns.take i) (h : ¬ (b < z ∧ z < k)) : ¬ lotP k ns := fun ⟨h1, _, h3⟩ => by
  obtain ⟨a0, a1⟩ := h1 z (List.mem_of_getElem? hz)
  refine h ⟨?_, by omega⟩
  rcases hb with rfl | hb
  · omega
  · obtain ⟨hi, rfl⟩ := List.getElem?_eq_some_iff.mp hz
    rw [← List.take_append_drop i ns, List.pairwise_append] at h3
    exact h3.2.2 b hb _ (by rw [List.mem_iff_getElem]; exact ⟨0, by rw [List.length_drop]; omega, by simp⟩)
end Jv
namespace Jv
open PySem PySem.Spec PyProof.Rows L2
theorem erase_map : ∀ (l : List Int) (j : Nat), (l.map V.int).eraseIdx j = (l.eraseIdx j).map V.int
  | [], _ => rfl
  | _ :: _, 0 => rfl
  | a :: r, j + 1 => congrArg (V.int a :: ·) (erase_map r j)
end Jv

/-! ### keyword calls, dict displays, things that are refused -/
namespace Jv
open PySem PySem.Spec PyProof.Rows L2
section
variable {K : PySem.W.Frag} {σ : L2.St} {H : Hp} {t tk : TA} {te tv : TE} {Q : VK} {A B : Prop}
theorem r_callN {n m : Nat} {sp : Sp} {gV : List V → List V → List V} {E : XK} (h : t σ H fun vs H1 => tk σ H1 fun zs H2 => vs.length = n ∧ zs.length = m ∧ sp (gV vs zs) H2 Q E) : tCallN n m sp gV E t tk σ H Q := h
theorem r_disp1 {k v : Int} (q : ∀ p, H p = none → Q (.ref p) (upd H p (.dK [(.inl k, .int v)]))) : tDisp [(tC (.int k), tC (.int v))] σ H Q := fun p hp =>
  ⟨upd_same, [(.inl k, .int v)], rfl, Nat.le_of_ble_eq_true rfl, by rw [upd_upd]; exact q p hp⟩
theorem r_disp2 {k v k' v' : Int} (ne : k ≠ k') (q : ∀ p, H p = none → Q (.ref p) (upd H p (.dK [(.inl k, .int v), (.inl k', .int v')]))) : tDisp [(tC (.int k), tC (.int v)), (tC (.int k'), tC (.int v'))] σ H Q := fun p hp =>
  ⟨upd_same, [(.inl k, .int v), (.inl k', .int v')], rfl, Nat.le_of_ble_eq_true rfl, by
    rw [upd_upd]
    have e : mergeK ([] : List (Key × V)) [(.inl k, .int v), (.inl k', .int v')] = [(.inl k, .int v), (.inl k', .int v')] := by
      simp [mergeK, putK, ne]
    rw [e]; exact q p hp⟩
theorem r_same {b : Bool} (q : B) : if (!decide (b = b)) = true then A else B := r_false (by rw [decide_eq_true rfl]; rfl) q
theorem r_same' {b c : Bool} (e : b = c) (q : B) : if (!decide (b = c)) = true then A else B := by subst e; exact r_same q
/-- the same, in a condition that is not yet an if -/
theorem r_dsame {P : Bool → Prop} {b : Bool} (q : P true) : P (decide (b = b)) := by rw [decide_eq_true rfl]; exact q
theorem r_and_k {te ta : TE} {c : Bool} (h : te σ H fun x H1 => ∃ c, x = .bl c ∧ if c = true then ta σ H1 Q else Q (.bl false) H1) : tAndV te ta σ H Q := h
end
/-- a thing that is neither a lot nor an order nor sides nor a couple -/
def BadTh (H : Hp) (x : V) : Prop := ThS H x ∧ ∀ xs, sqOf H x = some xs → intsV xs = none
theorem BadTh.same {H H' : Hp} {x : V} (h : BadTh H x) (s : Same H H') : BadTh H' x := ⟨h.1.same s, fun xs e => h.2 xs (by rw [← sqOf_same h.1.1 s]; exact e)⟩
theorem BadTh.lot {H : Hp} {x : V} {k : Int} (h : BadTh H x) : lotV H x k = false := by
  unfold lotV
  cases e : sqOf H x with
  | none => rfl
  | some xs => dsimp only; rw [h.2 xs e]
theorem BadTh.order {H : Hp} {x : V} {k : Int} (h : BadTh H x) : orderV H x k = false := by
  unfold orderV
  cases e : sqOf H x with
  | none => rfl
  | some xs => dsimp only; rw [h.2 xs e]
section
variable {H : Hp}
theorem bad_sc {x : V} (h : Th H x) (n : sqOf H x = none) : BadTh H x := ⟨⟨h, fun xs q => by rw [q.of] at n; cases n⟩, fun xs e => by rw [n] at e; cases e⟩
theorem bad_dK {a : Addr} {kvs : List (Key × V)} (h : H a = some (.dK kvs)) : BadTh H (.ref a) := bad_sc (.inr (.inr ⟨_, h⟩)) (by simp [sqOf, h])
theorem bad_sq {a : Addr} {xs : List V} (h : H a = some (.lst xs) ∨ H a = some (.tup xs)) (few : xs.length ≤ 60) (th : ∀ v ∈ xs, Th H v) (n : intsV xs = none) : BadTh H (.ref a) := by
  have sq : Sq H (.ref a) xs := ⟨a, rfl, h⟩
  refine ⟨⟨sq.th, fun ys q => ?_⟩, fun ys e => ?_⟩
  · have e := q.of; rw [sq.of] at e; cases e; exact ⟨few, th⟩
  · rw [sq.of] at e; cases e; exact n
theorem thS_ints {a : Addr} {ns : List Int} (h : H a = some (.lst (ns.map V.int)) ∨ H a = some (.tup (ns.map V.int))) (few : ns.length ≤ 60) : ThS H (.ref a) := by
  have sq : Sq H (.ref a) (ns.map V.int) := ⟨a, rfl, h⟩
  refine ⟨sq.th, fun ys q => ?_⟩
  have e := q.of; rw [sq.of] at e; cases e
  refine ⟨by rw [List.length_map]; exact few, fun v hv => ?_⟩
  obtain ⟨i, _, rfl⟩ := List.mem_map.mp hv
  trivial
theorem wholeV_not {x lo hi : V} (h : isI x = false) : wholeV x lo hi = false := by
  cases x with
  | int i => cases h
  | _ => rfl
theorem shaped_bad {d : PyData} (h : PyData.canLay0 d = true) (h2 : PyData.depth d = 0) : SeqAt.shaped (.list [.str "bad", d]) = true := by
  simp [SeqAt.shaped, PyData.canLay0, PyData.depth, PyData.canLayAll0, PyData.depthAll, h, h2]; decide +kernel
end
end Jv

/-! ### data: none, truths, whole numbers, texts, lists that stand, tuples that stand or are the program's own -/
namespace Jv
open PySem PySem.Spec PyProof.Rows L2
mutual
inductive Dv (K : PySem.W.Frag) (H : Hp) : V → PyData → Prop
  | non : Dv K H .non .none
  | bl (b : Bool) : Dv K H (.bl b) (.bool b)
  | int (i : Int) : Dv K H (.int i) (.int i)
  | str (x : Str) : Dv K H (.str x) (.str x)
  | lst {a : Addr} {xs : List V} {ds : List PyData} : H a = some (.lst xs) → DvAll K H xs ds → Dv K H (.ref a) (.list ds)
  | tup {a : Addr} {xs : List V} {ds : List PyData} : SqT K H a xs → DvAll K H xs ds → Dv K H (.ref a) (.tuple ds)
inductive DvAll (K : PySem.W.Frag) (H : Hp) : List V → List PyData → Prop
  | nil : DvAll K H [] []
  | cons {v : V} {vs : List V} {d : PyData} {ds : List PyData} : Dv K H v d → DvAll K H vs ds → DvAll K H (v :: vs) (d :: ds)
end
mutual
theorem Dv.same {K : PySem.W.Frag} {H H' : Hp} (s : Same H H') : ∀ {v : V} {d : PyData}, Dv K H v d → Dv K H' v d
  | _, _, .non => .non
  | _, _, .bl b => .bl b
  | _, _, .int i => .int i
  | _, _, .str x => .str x
  | _, _, .lst h q => .lst (s _ _ h) (DvAll.same s q)
  | _, _, .tup h q => .tup (Jv.Same.sqT s h) (DvAll.same s q)
theorem DvAll.same {K : PySem.W.Frag} {H H' : Hp} (s : Same H H') : ∀ {vs : List V} {ds : List PyData}, DvAll K H vs ds → DvAll K H' vs ds
  | _, _, .nil => .nil
  | _, _, .cons a b => .cons (Dv.same s a) (DvAll.same s b)
end
mutual
theorem Dv.dp {K : PySem.W.Frag} {H : Hp} : ∀ {v : V} {d : PyData}, Dv K H v d → Dp K H v d
  | _, _, .non => .non
  | _, _, .bl b => .bl b
  | _, _, .int i => .int i
  | _, _, .str x => .str x
  | _, _, .lst h q => .lst (sqL_at h) (DvAll.dp q)
  | _, _, .tup h q => .tup h (DvAll.dp q)
theorem DvAll.dp {K : PySem.W.Frag} {H : Hp} : ∀ {vs : List V} {ds : List PyData}, DvAll K H vs ds → DpAll K H vs ds
  | _, _, .nil => .nil
  | _, _, .cons a b => .cons (Dv.dp a) (DvAll.dp b)
end
section
variable {K : PySem.W.Frag} {H : Hp} {v : V} {d : PyData} {vs : List V} {ds : List PyData}
theorem DvAll.len : ∀ {vs : List V} {ds : List PyData}, DvAll K H vs ds → vs.length = ds.length
  | _, _, .nil => rfl
  | _, _, .cons _ b => congrArg (· + 1) (DvAll.len b)
theorem DvAll.snoc (h : Dv K H v d) : ∀ {vs : List V} {ds : List PyData}, DvAll K H vs ds → DvAll K H (vs ++ [v]) (ds ++ [d])
  | _, _, .nil => .cons h .nil
  | _, _, .cons a b => .cons a (DvAll.snoc h b)
theorem DvAll.at : ∀ {vs : List V} {ds : List PyData} {i : Nat} {v : V}, DvAll K H vs ds → vs[i]? = some v → ∃ d, ds[i]? = some d ∧ Dv K H v d
  | _, _, _, _, .nil, e => by simp at e
  | _, _, 0, _, .cons a _, e => by
    simp at e; subst e; exact ⟨_, rfl, a⟩
  | _, _, i + 1, _, .cons _ b, e => by
    simp at e ⊢; exact DvAll.at b e
theorem DvAll.of : ∀ {vs : List V} {ds : List PyData} {i : Nat} {d : PyData}, DvAll K H vs ds → ds[i]? = some d → ∃ v, vs[i]? = some v ∧ Dv K H v d
  | _, _, _, _, .nil, e => by simp at e
  | _, _, 0, _, .cons a _, e => by
    simp at e; subst e; exact ⟨_, rfl, a⟩
  | _, _, i + 1, _, .cons _ b, e => by
    simp at e ⊢; exact DvAll.of b e
theorem dv_ints : ∀ ns : List Int, DvAll K H (ns.map V.int) (ns.map PyData.int)
  | [] => .nil
  | a :: r => .cons (.int a) (dv_ints r)
end
/-- what sort a thing is -/
def tyD : PyData → String
  | .none => "NoneType"
  | .bool _ => "bool"
  | .int _ => "int"
  | .str _ => "str"
  | .list _ => "list"
  | .tuple _ => "tuple"
  | _ => "object"
def boolD : PyData → Bool
  | .bool _ => true
  | _ => false
def intD : PyData → Bool
  | .int _ => true
  | _ => false
def seqD : PyData → Option (List PyData)
  | .list xs => some xs
  | .tuple xs => some xs
  | _ => none
section
variable {K : PySem.W.Frag} {H : Hp} {v : V} {d : PyData} {Q : VK}
theorem SqT.tyX {a : Addr} {xs : List V} (h : SqT K H a xs) : TyX K H (.ref a) (.type "tuple") := by
  rcases h with (h | ⟨o, h⟩) | ⟨o, its, n, h, c, _⟩
  · exact .base (.tup h)
  · exact .fTuple h
  · exact .kTuple h c
theorem Dv.ty (h : Dv K H v d) : TyX K H v (.type (tyD d)) := by
  cases h with
  | non => exact .base .non
  | bl b => exact .base (.bl b)
  | int i => exact .base (.int i)
  | str x => exact .base (.str x)
  | lst h _ => exact .base (.lst h)
  | tup h _ => exact SqT.tyX h
theorem Dv.kits (h : Dv K H v d) : kitB (tyD d) "bool" = some (boolD d) ∧ kitB (tyD d) "int" = some (boolD d || intD d) ∧ kitB (tyD d) "list" = some (tyD d == "list") ∧ kitB (tyD d) "tuple" = some (tyD d == "tuple") ∧ kitB (tyD d) "str" = some (tyD d == "str") ∧ ((tyD d == "list") || (tyD d == "tuple")) = (seqD d).isSome := by
  cases h with
  | non => exact ⟨(by decide +kernel : kitB "NoneType" "bool" = some false), (by decide +kernel : kitB "NoneType" "int" = some false), (by decide +kernel : kitB "NoneType" "list" = some ("NoneType" == "list")), (by decide +kernel : kitB "NoneType" "tuple" = some ("NoneType" == "tuple")), (by decide +kernel : kitB "NoneType" "str" = some ("NoneType" == "str")), (by decide +kernel : (("NoneType" == "list") || ("NoneType" == "tuple")) = false)⟩
  | bl b => exact ⟨(by decide +kernel : kitB "bool" "bool" = some true), (by decide +kernel : kitB "bool" "int" = some true), (by decide +kernel : kitB "bool" "list" = some ("bool" == "list")), (by decide +kernel : kitB "bool" "tuple" = some ("bool" == "tuple")), (by decide +kernel : kitB "bool" "str" = some ("bool" == "str")), (by decide +kernel : (("bool" == "list") || ("bool" == "tuple")) = false)⟩
  | int i => exact ⟨(by decide +kernel : kitB "int" "bool" = some false), (by decide +kernel : kitB "int" "int" = some true), (by decide +kernel : kitB "int" "list" = some ("int" == "list")), (by decide +kernel : kitB "int" "tuple" = some ("int" == "tuple")), (by decide +kernel : kitB "int" "str" = some ("int" == "str")), (by decide +kernel : (("int" == "list") || ("int" == "tuple")) = false)⟩
  | str x => exact ⟨(by decide +kernel : kitB "str" "bool" = some false), (by decide +kernel : kitB "str" "int" = some false), (by decide +kernel : kitB "str" "list" = some ("str" == "list")), (by decide +kernel : kitB "str" "tuple" = some ("str" == "tuple")), (by decide +kernel : kitB "str" "str" = some ("str" == "str")), (by decide +kernel : (("str" == "list") || ("str" == "tuple")) = false)⟩
  | lst _ _ => exact ⟨(by decide +kernel : kitB "list" "bool" = some false), (by decide +kernel : kitB "list" "int" = some false), (by decide +kernel : kitB "list" "list" = some ("list" == "list")), (by decide +kernel : kitB "list" "tuple" = some ("list" == "tuple")), (by decide +kernel : kitB "list" "str" = some ("list" == "str")), (by decide +kernel : (("list" == "list") || ("list" == "tuple")) = true)⟩
  | tup _ _ => exact ⟨(by decide +kernel : kitB "tuple" "bool" = some false), (by decide +kernel : kitB "tuple" "int" = some false), (by decide +kernel : kitB "tuple" "list" = some ("tuple" == "list")), (by decide +kernel : kitB "tuple" "tuple" = some ("tuple" == "tuple")), (by decide +kernel : kitB "tuple" "str" = some ("tuple" == "str")), (by decide +kernel : (("tuple" == "list") || ("tuple" == "tuple")) = true)⟩
theorem d_isB (h : Dv K H v d) (q : Q (.bl (boolD d)) H) : rIsi K [v, .ty "bool"] H Q := ⟨v, _, _, _, _, rfl, .ty _, h.ty, kit_ty h.kits.1, q⟩
theorem d_isI (h : Dv K H v d) (q : Q (.bl (boolD d || intD d)) H) : rIsi K [v, .ty "int"] H Q := ⟨v, _, _, _, _, rfl, .ty _, h.ty, kit_ty h.kits.2.1, q⟩
theorem d_isT (h : Dv K H v d) (q : Q (.bl (tyD d == "tuple")) H) : rIsi K [v, .ty "tuple"] H Q := ⟨v, _, _, _, _, rfl, .ty _, h.ty, kit_ty h.kits.2.2.2.1, q⟩
theorem d_isStr (h : Dv K H v d) (q : Q (.bl (tyD d == "str")) H) : rIsi K [v, .ty "str"] H Q := ⟨v, _, _, _, _, rfl, .ty _, h.ty, kit_ty h.kits.2.2.2.2.1, q⟩
theorem d_isS {p : Addr} (hp : H p = some (.tup [.ty "list", .ty "tuple"])) (h : Dv K H v d) (q : Q (.bl (seqD d).isSome) H) : rIsiT K [v, .ref p] H Q := by
  obtain ⟨_, _, h2, h3, _, h4⟩ := h.kits
  refine ⟨v, p, _, _, _, (seqD d).isSome, rfl, hp, .cons (.ty _) (.cons (.ty _) .nil), h.ty, ?_, q⟩
  refine kitAny_cons (kit_ty h2) (fun e => ?_) fun e => by rw [← h4, e]; rfl
  refine kitAny_cons (kit_ty h3) (fun e2 => ?_) fun e2 => by rw [← h4, e2, Bool.or_true]
  rw [kitAny_nil, ← h4, e, e2]; rfl
/-- a sequence's items -/
theorem Dv.seq (h : Dv K H v d) {ds : List PyData} (e : seqD d = some ds) : ∃ a xs, v = .ref a ∧ (SqL K H a xs ∨ SqT K H a xs) ∧ DvAll K H xs ds := by
  cases h with
  | lst h q => cases e; exact ⟨_, _, rfl, .inl (sqL_at h), q⟩
  | tup h q => cases e; exact ⟨_, _, rfl, .inr h, q⟩
  | _ => cases e
end
/-- is_whole's answer, of data -/
def wholeD : PyData → V → V → Bool
  | .int i, lo, hi => loOk lo i && hiOk hi i
  | _, _, _ => false
end Jv

/-! ### methods, makings that may raise within a try; static methods; readings of objects -/
namespace Jv
open PySem PySem.Spec PyProof.Rows L2
section
variable {X : Cx} {CX : CXT} {k : Nat} {f C : Addr} {fd : FuncData} {ps : List Str} {sp : Sp} {dvs : List V} {ds : List Value} {E : L2.St → XK} {x m : Str} {p pos apos : Pos} {e o : Expr} {es : List Expr} {ta : TE} {t : TA}
theorem run_fnX {pins : List (Addr × Obj)} {σ : L2.St} {H : Hp} {s : Shared} {Q : VK} {us : List Value} {vs : List V} (F : FnOk X.prog X.w X.K X.mg X.base CX k f fd ps sp) (hr : Room k X.A) (hb : Binds X.K fd ps ds) (hd : Vals dvs ds) (hx : PassesAt CX X σ (E σ))
    (I : Inv X pins σ H s) (r : Vals vs us) (h : sp (vs ++ dvs) H Q (E σ)) : wpAny (model X.prog X.w) X.A (call (.ref f) us) (EP X pins σ Q) X.xe s := by
  have r2 : Vals (vs ++ dvs) (us ++ ds) := r.append hd
  have hl : (us ++ ds).length = ps.length := by rw [← r2.length]; exact F.len _ _ _ _ h
  refine wpAny_call (codeAny_mono (F.run X.A X.stack s H ⟨us, []⟩ (us ++ ds) (vs ++ dvs) Q (E σ) hr I.env0 (hb s us I.kIn hl) r2 h) fun r s' hq => ?_)
  cases r with
  | error e => exact hx pins H s e s' I hq
  | ok fl =>
    cases fl with
    | ret u => exact I.after hq
    | next => exact False.elim hq
    | brk => exact False.elim hq
    | cont => exact False.elim hq
def tMethX (C : Addr) (m : Str) (sp : Sp) (dvs : List V) (E : L2.St → XK) (ta : TE) (t : TA) : TE := fun σ H Q => ta σ H fun x H1 => ∃ a dx fs, x = .ref a ∧ H1 a = some (.ins C dx fs) ∧ fs.lookup m = none ∧
  t σ H1 fun vs H2 => sp (x :: (vs ++ dvs)) H2 Q (E σ)
theorem pe_methX {pl : Sem Bool} (he : PE X o ta) (c : Cls X.K C) (hm : Meth X.K C m f) (F : FnOk X.prog X.w X.K X.mg X.base CX k f fd ps sp) (hr : Room k X.A) (hb : Binds X.K fd ps ds) (hd : Vals dvs ds) (hx : ∀ σ, PassesAt CX X σ (E σ)) (ha : PA X (e :: es) t)
    (hst : starEach (e :: es) X.env = (false, eval e X.env) :: starEach es X.env := by rfl) (hpl : (backTo pos (starEach es X.env)).any (·.1) = false := by rfl)
    (ht : eval (.Call (.Attribute o m apos) (e :: es) [] pos) X.env = (do
      let ov ← eval o X.env
      standAt apos.atName
      let (f, first) ← holding [ov] (getMethod ov m pl)
      callWith pos f first (backTo pos (starEach (e :: es) X.env)) (backToKw pos (keywordEach [] X.env))) := by rfl) :
    PE X (.Call (.Attribute o m apos) (e :: es) [] pos) (tMethX C m sp dvs E ta t) := by
  refine ⟨fun pins s σ H Q I h => ?_⟩
  refine PySem.W.methodCall_KW (pl := pl) (thn (he.run pins s σ H _ I h) fun u s1 ⟨x, H1, I1, rx, a, dx, fs, ex, ea, l, q⟩ => ?_) ht
  subst ex
  obtain rfl : u = Value.ref a := rx
  refine getmeth_ok I1 ea c hm l ?_
  refine PySem.W.callWith_K (first := [.ref a]) (h₀ := X.base) I.ok.mod.kin hm.kp (thn (ha.run pos pins s1 σ H1 _ I1 q) fun us s2 ⟨vs, H2, I2, r, q2⟩ => ⟨I2.kIn, ?_⟩) hst hpl
  exact run_fnX (us := .ref a :: us) (vs := .ref a :: vs) F hr hb hd (hx σ) I2 (.cons rfl r) q2
def tMakeX (C : Addr) (sp : Sp) (dvs : List V) (E : L2.St → XK) (t : TA) : TE := fun σ H Q => t σ H fun vs H1 => ∀ x dx, H1 x = none → H1 dx = none → dx ≠ x →
  sp (.ref x :: (vs ++ dvs)) (upd (upd H1 dx (.own x)) x (.ins C dx [])) (fun v H2 => v = .non ∧ Q (.ref x) H2) (E σ)
theorem run_makeX {pins : List (Addr × Obj)} {σ : L2.St} {H : Hp} {s : Shared} {Q : VK} {us : List Value} {vs : List V} (M : Mk X.K C f) (F : FnOk X.prog X.w X.K X.mg X.base CX k f fd ps sp) (hr : Room (k + 1) X.A) (hb : Binds X.K fd ps ds) (hd : Vals dvs ds)
    (hx : PassesAt CX X σ (E σ)) (I : Inv X pins σ H s) (r : Vals vs us)
    (h : ∀ x dx, H x = none → H dx = none → dx ≠ x → sp (.ref x :: (vs ++ dvs)) (upd (upd H dx (.own x)) x (.ins C dx [])) (fun v H2 => v = .non ∧ Q (.ref x) H2) (E σ)) :
    wpAny (model X.prog X.w) X.A (call (.ref C) us) (EP X pins σ Q) X.xe s := by
  have hq := h (s.heap.objs.size + 1) s.heap.objs.size (I.hok.fresh (Nat.le_succ _)) (I.hok.fresh (Nat.le_refl _)) (Nat.ne_of_lt (Nat.lt_succ_self _))
  have I2 := Inv.made (C := C) I
  have r2 : Vals (V.ref (s.heap.objs.size + 1) :: (vs ++ dvs)) (Value.ref (s.heap.objs.size + 1) :: (us ++ ds)) := .cons rfl (r.append hd)
  have hl : (Value.ref (s.heap.objs.size + 1) :: us ++ ds).length = ps.length := by
    have e := r2.length
    rw [F.len _ _ _ _ hq] at e
    exact e.symm
  refine wpAny_call (make_map (f := f) I.kIn M.makes M.init (beq_iff_eq.mp M.fn) (codeAny_mono (F.run _ X.stack _ _ ⟨Value.ref (s.heap.objs.size + 1) :: us, []⟩ (Value.ref (s.heap.objs.size + 1) :: (us ++ ds)) _ _ (E σ) (hr.make C us [])
    (I2.env0.make C us []) (hb _ (Value.ref (s.heap.objs.size + 1) :: us) I2.kIn hl) r2 hq) fun r s' hq' => ?_))
  cases r with
  | error e => exact hx pins _ _ e s' I2 hq'
  | ok fl =>
    cases fl with
    | ret u =>
      obtain ⟨v, H', I3, rv, ev, q3⟩ := I2.after hq'
      subst ev
      exact ⟨rv, ⟨V.ref (s.heap.objs.size + 1), H', I3, rfl, q3⟩⟩
    | next => exact False.elim hq'
    | brk => exact False.elim hq'
    | cont => exact False.elim hq'
theorem pe_makeX (M : Mk X.K C f) (F : FnOk X.prog X.w X.K X.mg X.base CX k f fd ps sp) (hr : Room (k + 1) X.A) (hg : Gl X x) (hm : X.mg x = some (.ref C)) (hb : Binds X.K fd ps ds) (hd : Vals dvs ds) (hx : ∀ σ, PassesAt CX X σ (E σ))
    (ha : PA X (e :: es) t) (hdb : (x == ("__debug__" : Str)) = false := by decide) (he : starEach (e :: es) X.env = (false, eval e X.env) :: starEach es X.env := by rfl) (hpl : (backTo pos (starEach es X.env)).any (·.1) = false := by rfl) :
    PE X (.Call (.Name x p) (e :: es) [] pos) (tMakeX C sp dvs E t) := by
  refine ⟨fun pins s σ H Q I h => ?_⟩
  refine wpAny_Call_Name_kw (ld_glob I hg hm ?_ hdb)
  refine PySem.W.callWith_K (h₀ := X.base) I.ok.mod.kin M.kp (thn (ha.run pos pins s σ H _ I h) fun us s1 ⟨vs, H1, I1, r, q⟩ => ⟨I1.kIn, ?_⟩) he hpl
  exact run_makeX M F hr hb hd (hx σ) I1 r q
end
/-- C.m is a static method: its record at p, its def at g -/
structure SMet (K : PySem.W.Frag) (C : Addr) (mc : Value) (m : Str) (p g : Addr) : Prop where
  rd : PySem.W.readsIn K C mc = true
  ga : PySem.W.specialIn K (.ref C) "__getattribute__" = some (some (.builtin "type.__getattribute__"))
  at_ : PySem.W.findCls K (.ref C) mc m = some (.get (.builtin "staticmethod.__get__") (.ref p) .none (.ref C))
  rc : ∃ rest, PySem.W.recIn K p "staticmethod" = some (.ref g :: rest)
  kp : PySem.W.keepIn K (.ref g) = true
section
variable {X : Cx} {CX : CXT} {k : Nat} {g p C : Addr} {mc : Value} {fd : FuncData} {ps : List Str} {sp : Sp} {dvs : List V} {ds : List Value} {E : XK} {m : Str} {pos apos : Pos} {e o : Expr} {es : List Expr} {ta : TE} {t : TA}
def tSMeth (C : Addr) (sp : Sp) (dvs : List V) (E : XK) (ta : TE) (t : TA) : TE := fun σ H Q => ta σ H fun x H1 => x = .ref C ∧ t σ H1 fun vs H2 => sp (vs ++ dvs) H2 Q E
theorem getsm_ok {pins : List (Addr × Obj)} {σ : L2.St} {H : Hp} {s : Shared} {A : Around} {E : Value → Shared → Prop} {pl : Sem Bool} {Q : Value × List Value → Shared → Prop} (I : Inv X pins σ H s) (r : SMet X.K C mc m p g)
    (h : ∀ s', Inv X pins σ H s' → Q (.ref g, []) s') : wpAny (model X.prog X.w) A (getMethod (.ref C) m pl) Q E s := by
  obtain ⟨rest, hp⟩ := r.rc
  refine PySem.W.method_cls I.kIn r.ga (PySem.W.cls_bind I.kIn r.rd r.at_ ?_)
  exact wpAny_call (PySem.W.sm_get (s := { s with toks := s.toks + 1 }) I.kIn hp (PySem.W.handed_on rfl (h _ (I.tok _))))
theorem pe_smeth {pl : Sem Bool} (he : PE X o ta) (c : SMet X.K C mc m p g) (F : FnOk X.prog X.w X.K X.mg X.base CX k g fd ps sp) (hr : Room k X.A) (hb : Binds X.K fd ps ds) (hd : Vals dvs ds) (hx : Passes CX X E) (ha : PA X (e :: es) t)
    (hst : starEach (e :: es) X.env = (false, eval e X.env) :: starEach es X.env := by rfl) (hpl : (backTo pos (starEach es X.env)).any (·.1) = false := by rfl)
    (ht : eval (.Call (.Attribute o m apos) (e :: es) [] pos) X.env = (do
      let ov ← eval o X.env
      standAt apos.atName
      let (f, first) ← holding [ov] (getMethod ov m pl)
      callWith pos f first (backTo pos (starEach (e :: es) X.env)) (backToKw pos (keywordEach [] X.env))) := by rfl) :
    PE X (.Call (.Attribute o m apos) (e :: es) [] pos) (tSMeth C sp dvs E ta t) := by
  refine ⟨fun pins s σ H Q I h => ?_⟩
  refine PySem.W.methodCall_KW (pl := pl) (thn (he.run pins s σ H _ I h) fun u s1 ⟨x, H1, I1, rx, ex, q⟩ => ?_) ht
  subst ex
  obtain rfl : u = Value.ref C := rx
  refine getsm_ok I1 c fun s2 I2 => ?_
  refine PySem.W.callWith_K (first := []) (h₀ := X.base) I.ok.mod.kin c.kp (thn (ha.run pos pins s2 σ H1 _ I2 q) fun us s3 ⟨vs, H2, I3, rv, q2⟩ => ⟨I3.kIn, ?_⟩) hst hpl
  exact run_fn F hr hb hd hx I3 rv q2
end
end Jv

/-! ### is True, is False of any thing; faults caught by one of two names -/
namespace Jv
open PySem PySem.Spec PyProof.Rows L2
/-- a is b, b True or False -/
def rIsT : R2 := fun x y H Q => ∃ b : Bool, y = .bl b ∧ Q (.bl (decide (x = .bl b))) H
theorem op_isT {X : Cx} : OpR X (compareOp .Is) rIsT := by
  intro pins s σ H x y v u Q I rx ry h
  obtain ⟨b, rfl, q⟩ := h
  cases (show u = Value.bool b from ry)
  by_cases e : x = .bl b
  · subst e
    cases (show v = Value.bool b from rx)
    exact wpAny_is_self rfl ⟨.bl true, H, I, rfl, by simpa using q⟩
  · have e2 : decide (x = .bl b) = false := decide_eq_false e
    rw [e2] at q
    refine wpAny_is_other ?_ ?_ ⟨.bl false, H, I, rfl, q⟩
    · cases x <;> first
        | (cases rx; rfl)
        | (obtain ⟨t, rfl⟩ := rx; rfl)
    · intro z
      cases x with
      | bl c => cases (show v = Value.bool c from rx); exact e (by cases z; rfl)
      | non => cases rx; cases z
      | int i => obtain ⟨t, rfl⟩ := rx; cases z
      | str i => obtain ⟨t, rfl⟩ := rx; cases z
      | byt i => obtain ⟨t, rfl⟩ := rx; cases z
      | flt i => obtain ⟨t, rfl⟩ := rx; cases z
      | ref a => cases (show v = Value.ref a from rx); cases z
      | ty a => cases (show v = Value.type a from rx); cases z
end Jv

/-! ### sequences that stand or are the program's own; walks, comprehensions over them; data's answers -/
namespace Jv
open PySem PySem.Spec PyProof.Rows L2
def Sk (K : PySem.W.Frag) (H : Hp) (x : V) (xs : List V) : Prop := ∃ a, x = .ref a ∧ (SqL K H a xs ∨ SqT K H a xs)
section
variable {K : PySem.W.Frag} {σ : L2.St} {H H' : Hp} {te : TE} {Q : VK} {xs : List V} {ds : List PyData} {j i : Nat} {x v : V} {d : PyData}
theorem Sk.same (h : Sk K H x xs) (s : Same H H') : Sk K H' x xs := by
  obtain ⟨a, rfl, h | h⟩ := h
  · exact ⟨a, rfl, .inl (s.seq h)⟩
  · exact ⟨a, rfl, .inr (Jv.Same.sqT s h)⟩
theorem Dv.sk (h : Dv K H v d) (e : seqD d = some ds) : ∃ xs, Sk K H v xs ∧ DvAll K H xs ds := by
  obtain ⟨a, xs, e1, e2, e3⟩ := h.seq e
  exact ⟨xs, ⟨a, e1, e2⟩, e3⟩
theorem Sk.len (h : Sk K H x xs) (q : Q (.int xs.length) H) : rLenK K [x] H Q := by
  obtain ⟨a, rfl, h⟩ := h
  exact r_len h q
theorem Sk.ix (h : Sk K H x xs) {k : Int} {v : V} (e : atI xs k = some v) (q : Q v H) : rIx K x (.int k) H Q := by
  obtain ⟨a, rfl, h | h⟩ := h
  · exact .inl (r_ixL h e q)
  · exact .inr (.inl (r_ixT h e q))
/-- over a name that holds a list or a tuple -/
theorem lcK (hv : σ[i]? = some (some x)) (hx : Sk K H x xs) (f : V → V) (few : xs.length ≤ 1000)
    (hs : ∀ v H1, v ∈ xs → Same H H1 → ∀ P : VK, (∀ H2, Same H1 H2 → P (f v) H2) → te ((σ.set j none).set j (some v)) H1 P)
    (hd : ∀ D H1, Same H H1 → H D = none → H1 D = some (.lst (xs.map f)) → Q (.ref D) H1) : tLc (fun σ H R => iList K (tVar i) σ H R ∨ iTup K (tVar i) σ H R) (gName j) tYes te [j] σ H Q := by
  obtain ⟨a, rfl, h | h⟩ := hx
  · exact .inl (lcL hv h f few hs hd)
  · exact .inr (lcT hv h f few hs hd)
theorem Sk.tup (h : Sk K H x xs) (q : ∀ (t : Addr) (H' : Hp), Same H H' → SqT K H' t xs → Q (.ref t) H') : rTupOf K [x] H Q := by
  obtain ⟨a, rfl, h | h⟩ := h
  · exact ⟨a, _, rfl, .inl ⟨h, fun l hl => q l _ (same_new hl) (sqT_at upd_same)⟩⟩
  · exact ⟨a, _, rfl, .inr ⟨h, q a _ (Same.refl _) h⟩⟩
end
def few1 (d : PyData) : Prop := ∀ ds, seqD d = some ds → ds.length ≤ 100
def few2 (d : PyData) : Prop := ∀ ds, seqD d = some ds → ds.length ≤ 100 ∧ ∀ e ∈ ds, few1 e
def few3 (d : PyData) : Prop := ∀ ds, seqD d = some ds → ds.length ≤ 100 ∧ ∀ e ∈ ds, few2 e
theorem DvAll.mem {K : PySem.W.Frag} {H : Hp} : ∀ {vs : List V} {ds : List PyData} {v : V}, DvAll K H vs ds → v ∈ vs → ∃ d ∈ ds, Dv K H v d
  | _, _, _, .nil, m => by cases m
  | _, _, _, .cons a b, m => by
    rcases List.mem_cons.mp m with rfl | m
    · exact ⟨_, List.mem_cons_self, a⟩
    · obtain ⟨d, h1, h2⟩ := DvAll.mem b m
      exact ⟨d, List.mem_cons_of_mem _ h1, h2⟩
theorem Dv.whole {K : PySem.W.Frag} {H : Hp} {v lo hi : V} {d : PyData} (h : Dv K H v d) : wholeV v lo hi = wholeD d lo hi := by
  cases h <;> rfl
/-- a function of things that goes by what they are -/
theorem DvAll.all {K : PySem.W.Frag} {H : Hp} {f : V → Bool} {g : PyData → Bool} (e : ∀ v d, Dv K H v d → f v = g d) : ∀ {vs : List V} {ds : List PyData}, DvAll K H vs ds → vs.all f = ds.all g
  | _, _, .nil => rfl
  | _, _, .cons a b => by rw [List.all_cons, List.all_cons, e _ _ a, DvAll.all e b]
def sidesD (d : PyData) : Bool := match seqD d with
  | some [.int p, .int q] => decide ((1 ≤ p ∧ p ≤ 6) ∧ (1 ≤ q ∧ q ≤ 6) ∧ p * q ≤ 12)
  | _ => false
def endsD (l : Int) (d : PyData) : Bool := match seqD d with
  | some ds => decide (0 < ds.length) && ds.all fun e => wholeD e (.int (-l)) (.int l)
  | none => false
def knowsD (d : PyData) : Bool := match seqD d with
  | some ds => decide (ds.length = 2) && ds.all boolD
  | none => false
theorem boolD_iff {K : PySem.W.Frag} {H : Hp} {v : V} {d : PyData} (h : Dv K H v d) : (decide (v = .bl true) || decide (v = .bl false)) = boolD d := by
  cases h with
  | bl b => cases b <;> rfl
  | _ => rfl
theorem wholeD_int {d : PyData} {l h : Int} : wholeD d (.int l) (.int h) = true → ∃ i, d = .int i ∧ l ≤ i ∧ i ≤ h := by
  intro q
  cases d with
  | int i => simp [wholeD, loOk, hiOk] at q; exact ⟨i, rfl, q⟩
  | _ => cases q
/-- how many lines, how long -/
def linesD (d : PyData) : Option (Nat × Nat) := match seqD d with
  | none => none
  | some ds => if ds.all (fun e => (seqD e).isSome) = true then
      match ds.map (fun e => ((seqD e).getD []).length) with
      | [] => none
      | n :: ns => if ns.all (fun m => decide (m = n)) = true then some (ns.length + 1, n) else none
    else none
end Jv

/-! ### comprehensions whose results are data; the lists under way hidden -/
namespace Jv
open PySem PySem.Spec PyProof.Rows L2
def hide (N : List Addr) (H : Hp) : Hp := fun b => if b ∈ N then none else H b
theorem hide_nil {H : Hp} : hide [] H = H := by funext b; simp [hide]
theorem hide_at {N : List Addr} {H : Hp} {b : Addr} {o : HO} (n : b ∉ N) (h : H b = some o) : hide N H b = some o := by unfold hide; rw [if_neg n]; exact h
theorem hide_some {N : List Addr} {H : Hp} {b : Addr} {o : HO} (h : hide N H b = some o) : b ∉ N ∧ H b = some o := by
  unfold hide at h
  by_cases n : b ∈ N
  · rw [if_pos n] at h; cases h
  · rw [if_neg n] at h; exact ⟨n, h⟩
theorem hide_le {N : List Addr} {H : Hp} : Same (hide N H) H := fun _ _ e => (hide_some e).2
theorem hide_same {N : List Addr} {H H' : Hp} (s : Same H H') : Same (hide N H) (hide N H') := fun _ _ e => hide_at (hide_some e).1 (s _ _ (hide_some e).2)
theorem hide_more {N : List Addr} {H H' : Hp} {D : Addr} (s : Same H H') (n : H D = none) : Same (hide N H) (hide (D :: N) H') := fun b o e => by
  obtain ⟨h1, h2⟩ := hide_some e
  refine hide_at (fun m => ?_) (s _ _ h2)
  rcases List.mem_cons.mp m with rfl | m
  · rw [n] at h2; cases h2
  · exact h1 m
theorem hide_less {N : List Addr} {H : Hp} {D : Addr} : Same (hide (D :: N) H) (hide N H) := fun b o e => by
  obtain ⟨h1, h2⟩ := hide_some e
  exact hide_at (fun m => h1 (List.mem_cons_of_mem _ m)) h2
theorem hide_upd {N : List Addr} {H : Hp} {D : Addr} {o : HO} : hide (D :: N) (upd H D o) = hide (D :: N) H := by
  funext b
  unfold hide
  by_cases m : b ∈ D :: N
  · rw [if_pos m, if_pos m]
  · rw [if_neg m, if_neg m]
    exact upd_ne fun e => m (by rw [e]; exact List.mem_cons_self)
def Held (N : List Addr) (H : Hp) : Prop := ∀ b ∈ N, ∃ o, H b = some o
theorem Held.nil {H : Hp} : Held [] H := fun _ h => by cases h
theorem Held.same {N : List Addr} {H H' : Hp} (h : Held N H) (s : Same H H') : Held N H' := fun b m => let ⟨o, e⟩ := h b m; ⟨o, s _ _ e⟩
theorem Held.cons {N : List Addr} {H : Hp} {D : Addr} {o : HO} (h : Held N H) (e : H D = some o) : Held (D :: N) H := fun b m => by
  rcases List.mem_cons.mp m with rfl | m
  · exact ⟨_, e⟩
  · exact h b m
theorem Held.new {N : List Addr} {H : Hp} {t : Addr} (h : Held N H) (n : H t = none) : t ∉ N := fun m => by
  obtain ⟨o, e⟩ := h t m
  rw [n] at e; cases e
section
variable {K : PySem.W.Frag} {σ : L2.St} {H : Hp} {te : TE} {tt : TT} {Q : VK} {xs : List V} {es : List PyData} {j i n : Nat} {x : V} {N : List Addr} {J : It} {G : Hp → Prop} {Y : Nat → Hp → V → Hp → Prop} {F : Nat → V → Prop}
theorem lcD (w : Walk J n G Y) (hG : ∀ H', Same H H' → G H') (hy : ∀ i H x H', i < n → Y i H x H' → H' = H ∧ F i x) (hN : Held N H) (es : List PyData) (hl : es.length = n) (few : n ≤ 1000)
    (hs : ∀ i v e D H1, i < n → F i v → es[i]? = some e → Same H H1 → Held (D :: N) H1 → H D = none → ∀ P : VK, (∀ y H2, Same H1 H2 → Dv K (hide (D :: N) H2) y e → P y H2) → te ((σ.set j none).set j (some v)) H1 P)
    (hd : ∀ D ys H1, Same H H1 → H D = none → H1 D = some (.lst ys) → DvAll K (hide N H1) ys es → DvAll K (hide (D :: N) H1) ys es → Q (.ref D) H1) : ∀ D, H D = none → ∃ W : Nat → Nat → Hp → Prop, (∃ m, W 0 m (upd H D (.lst []))) ∧ ∀ i m H, W i m H →
      (J.stop i H ∧ Q (.ref D) H) ∨ (J.go i H ∧ ∃ Nx : Hp → Prop, (∀ H', Nx H' → ∃ m', m' < m ∧ W (i + 1) m' H') ∧ ∀ x H', J.yld i H x H' → gName j x (wipe σ [j]) H' fun σ2 H2 => wipe σ2 [j] = wipe σ [j] ∧ tYes σ2 H2 fun b H3 =>
        if b = true then te σ2 H3 fun y H4 => ∃ acc, H4 D = some (.lst acc) ∧ acc.length < sizeLine ∧ Nx (upd H4 D (.lst (acc ++ [y]))) else Nx H3) := by
  intro D hD
  refine lc_it w (fun i H1 => Same H H1 ∧ ∃ ys, H1 D = some (.lst ys) ∧ DvAll K (hide (D :: N) H1) ys (es.take i)) ⟨same_new hD, [], upd_same, .nil⟩ (fun i H1 _ h => hG H1 h.1) ?_ ?_
  · rintro i x H1 H2 hi ⟨s1, ys, e1, al⟩ hx
    obtain ⟨e0, hF⟩ := hy i _ _ _ hi hx
    subst e0
    refine ⟨wipe1, ?_⟩
    refine r_yes ?_
    refine r_true (c := true) rfl ?_
    have hie : i < es.length := by omega
    have he := List.getElem?_eq_getElem hie
    refine hs i x _ D _ hi hF he s1 ((hN.same s1).cons e1) hD _ fun y H3 s3 dy => ⟨_, s3 _ _ e1, ?_, ?_, _, upd_same, ?_⟩
    · rw [al.len, List.length_take]; exact small_lt (by omega)
    · intro b o e; exact kpO (s3 _ _ (s1 b o e)) (ne_of_none e hD)
    · rw [hide_upd, take_more he]
      exact DvAll.snoc dy (al.same (hide_same s3))
  · rintro H1 ⟨s1, ys, e1, al⟩
    rw [List.take_of_length_le (by omega)] at al
    exact hd D ys H1 s1 hD e1 (al.same hide_less) al
theorem yat {xs : List V} : ∀ (i : Nat) (H : Hp) (x : V) (H' : Hp), i < xs.length → YAt xs i H x H' → H' = H ∧ xs[i]? = some x := fun _ _ _ _ _ h => h
theorem yfn {f : Nat → V} {n : Nat} : ∀ (i : Nat) (H : Hp) (x : V) (H' : Hp), i < n → YFn f i H x H' → H' = H ∧ x = f i := fun _ _ _ _ _ h => h
/-- over a name that holds a list or a tuple; the results' data by the data's -/
theorem lcS2 (hv : σ[i]? = some (some x)) (hx : Sk K H x xs) (hN : Held N H) (es : List PyData) (hl : es.length = xs.length) (few : xs.length ≤ 1000)
    (hs : ∀ i v e D H1, i < xs.length → xs[i]? = some v → es[i]? = some e → Same H H1 → Held (D :: N) H1 → H D = none → ∀ P : VK, (∀ y H2, Same H1 H2 → Dv K (hide (D :: N) H2) y e → P y H2) → te ((σ.set j none).set j (some v)) H1 P)
    (hd : ∀ D ys H1, Same H H1 → H D = none → H1 D = some (.lst ys) → DvAll K (hide N H1) ys es → DvAll K (hide (D :: N) H1) ys es → Q (.ref D) H1) : tLc (fun σ H R => iList K (tVar i) σ H R ∨ iTup K (tVar i) σ H R) (gName j) tYes te [j] σ H Q := by
  obtain ⟨a, rfl, h | h⟩ := hx
  · exact .inl ⟨_, hv, a, rfl, ⟨xs, h⟩, lcD walk_list (fun H' s => s.seq h) yat hN es hl few hs hd⟩
  · exact .inr ⟨_, hv, a, rfl, ⟨xs, h⟩, lcD walk_tup (fun H' s => Jv.Same.sqT s h) yat hN es hl few hs hd⟩
end
/-- results that are truths -/
theorem dv_bools {K : PySem.W.Frag} {H : Hp} : ∀ {ys : List V} {bs : List Bool}, DvAll K H ys (bs.map PyData.bool) → ys = bs.map V.bl
  | [], [], _ => rfl
  | _, b :: bs, .cons (.bl _) r => by rw [dv_bools r]; rfl
theorem dv_intsV {K : PySem.W.Frag} {H : Hp} : ∀ {ys : List V} {ns : List Int}, DvAll K H ys (ns.map PyData.int) → ys = ns.map V.int
  | [], [], _ => rfl
  | _, b :: bs, .cons (.int _) r => by rw [dv_intsV r]; rfl
end Jv

/-! ### comprehensions of two walks over data -/
namespace Jv
open PySem PySem.Spec PyProof.Rows L2
def rowG (g : PyData → PyData) (r : PyData) : List PyData := ((seqD r).getD []).map g
def upTo (g : PyData → PyData) (ds : List PyData) (m n : Nat) : List PyData := (ds.take m).flatMap (rowG g) ++ (((ds[m]?.map (rowG g)).getD []).take n)
theorem upTo_more {g : PyData → PyData} {ds : List PyData} {m n : Nat} {r d : PyData} {l : List PyData} (hr : ds[m]? = some r) (hl : seqD r = some l) (hd : l[n]? = some d) : upTo g ds m (n + 1) = upTo g ds m n ++ [g d] := by
  unfold upTo
  rw [hr, List.append_assoc]
  congr 1
  show (rowG g r).take (n + 1) = (rowG g r).take n ++ [g d]
  refine take_more ?_
  unfold rowG
  rw [hl]
  show (l.map g)[n]? = _
  rw [List.getElem?_map, hd]; rfl
theorem upTo_next {g : PyData → PyData} {ds : List PyData} {m : Nat} {r : PyData} {l : List PyData} (hr : ds[m]? = some r) (hl : seqD r = some l) : upTo g ds m l.length = upTo g ds (m + 1) 0 := by
  unfold upTo
  rw [hr, take_more hr, List.flatMap_append]
  have : (rowG g r).take l.length = rowG g r := by
    unfold rowG; rw [hl]
    exact List.take_of_length_le (by show (l.map g).length ≤ _; rw [List.length_map]; exact Nat.le_refl _)
  show _ ++ (rowG g r).take l.length = _
  rw [this]
  simp
theorem upTo_end {g : PyData → PyData} {ds : List PyData} : upTo g ds ds.length 0 = ds.flatMap (rowG g) := by
  unfold upTo
  simp
theorem flat_len {f : PyData → List PyData} : ∀ {l : List PyData}, (∀ e ∈ l, (f e).length ≤ 100) → (l.flatMap f).length ≤ l.length * 100
  | [], _ => by simp
  | a :: r, h => by
    have h1 := h a List.mem_cons_self
    have h2 := flat_len (l := r) fun e m => h e (List.mem_cons_of_mem _ m)
    rw [List.flatMap_cons, List.length_append, List.length_cons, Nat.succ_mul]; omega
section
variable {K : PySem.W.Frag} {σ : L2.St} {H : Hp} {te : TE} {Q : VK} {xs : List V} {ds : List PyData} {i a b : Nat} {x : V} {N : List Addr}
theorem lc2W {J : It} {G : Hp → Prop} (w : Walk J xs.length G (YAt xs)) (hG : ∀ H', Same H H' → G H') (al : DvAll K H xs ds) (hN : Held N H) (g : PyData → PyData)
    (hq : ∀ e ∈ ds, ∃ l, seqD e = some l ∧ l.length ≤ 100) (few : ds.length ≤ 100)
    (w1 : ∀ v, wipe ((wipe σ [a, b]).set a (some v)) [a, b] = wipe σ [a, b])
    (w2 : ∀ v u, wipe ((wipe ((wipe σ [a, b]).set a (some v)) [b]).set b (some u)) [b] = wipe ((wipe σ [a, b]).set a (some v)) [b])
    (ha : ∀ v, ((wipe σ [a, b]).set a (some v))[a]? = some (some v))
    (hs : ∀ v u d D H1, Dv K H1 u d → (∃ e ∈ ds, ∃ l, seqD e = some l ∧ d ∈ l) → Same H H1 → Held (D :: N) H1 → H D = none → ∀ P : VK, (∀ y H2, Same H1 H2 → Dv K (hide (D :: N) H2) y (g d) → P y H2) → te ((wipe ((wipe σ [a, b]).set a (some v)) [b]).set b (some u)) H1 P)
    (hd : ∀ D ys H1, Same H H1 → H D = none → H1 D = some (.lst ys) → DvAll K (hide N H1) ys (ds.flatMap (rowG g)) → Q (.ref D) H1) :
    ∀ D, H D = none → ∃ W : Nat → Nat → Hp → Prop, (∃ m, W 0 m (upd H D (.lst []))) ∧ ∀ i m H, W i m H →
      (J.stop i H ∧ Q (.ref D) H) ∨ (J.go i H ∧ ∃ Nx : Hp → Prop, (∀ H', Nx H' → ∃ m', m' < m ∧ W (i + 1) m' H') ∧ ∀ x H', J.yld i H x H' → gName a x (wipe σ [a, b]) H' fun σ2 H2 => wipe σ2 [a, b] = wipe σ [a, b] ∧ tYes σ2 H2 fun c H3 =>
        if c = true then (iList K (tVar a) σ2 H3 fun J1 H4 => ∃ W1 : Nat → Nat → Hp → Prop, (∃ m, W1 0 m H4) ∧ ∀ j k H, W1 j k H →
          (J1.stop j H ∧ Nx H) ∨ (J1.go j H ∧ ∃ Nx1 : Hp → Prop, (∀ H', Nx1 H' → ∃ k', k' < k ∧ W1 (j + 1) k' H') ∧ ∀ x H', J1.yld j H x H' → gName b x (wipe σ2 [b]) H' fun σ3 H5 => wipe σ3 [b] = wipe σ2 [b] ∧ tYes σ3 H5 fun c H6 =>
            if c = true then te σ3 H6 fun y H7 => ∃ acc, H7 D = some (.lst acc) ∧ acc.length < sizeLine ∧ Nx1 (upd H7 D (.lst (acc ++ [y]))) else Nx1 H6)) ∨ (iTup K (tVar a) σ2 H3 fun J1 H4 => ∃ W1 : Nat → Nat → Hp → Prop, (∃ m, W1 0 m H4) ∧ ∀ j k H, W1 j k H →
          (J1.stop j H ∧ Nx H) ∨ (J1.go j H ∧ ∃ Nx1 : Hp → Prop, (∀ H', Nx1 H' → ∃ k', k' < k ∧ W1 (j + 1) k' H') ∧ ∀ x H', J1.yld j H x H' → gName b x (wipe σ2 [b]) H' fun σ3 H5 => wipe σ3 [b] = wipe σ2 [b] ∧ tYes σ3 H5 fun c H6 =>
            if c = true then te σ3 H6 fun y H7 => ∃ acc, H7 D = some (.lst acc) ∧ acc.length < sizeLine ∧ Nx1 (upd H7 D (.lst (acc ++ [y]))) else Nx1 H6))
        else Nx H3) := by
  intro D hD
  have hlen := al.len
  have bound : ∀ m n, (upTo g ds m n).length < 20000 := by
    intro m n
    unfold upTo
    rw [List.length_append, List.length_take]
    have row : ∀ e ∈ ds, (rowG g e).length ≤ 100 := fun e he => by
      obtain ⟨l, h1, h2⟩ := hq e he
      unfold rowG; rw [h1]; show (l.map g).length ≤ 100; rw [List.length_map]; exact h2
    have h1 := flat_len (f := rowG g) (l := ds.take m) fun e he => row e (List.mem_of_mem_take he)
    have h2 : (ds.take m).length ≤ 100 := by rw [List.length_take]; omega
    have h3 : ((ds[m]?.map (rowG g)).getD []).length ≤ 100 := by
      cases e : ds[m]? with
      | none => simp
      | some r => exact row r (List.mem_of_getElem? e)
    omega
  refine ⟨fun m k H1 => k = xs.length - m ∧ m ≤ xs.length ∧ Same H H1 ∧ ∃ ys, H1 D = some (.lst ys) ∧ DvAll K (hide (D :: N) H1) ys (upTo g ds m 0), ⟨xs.length, by omega, by omega, same_new hD, [], upd_same, by unfold upTo; simp; exact .nil⟩, ?_⟩
  rintro m k H1 ⟨rfl, hm, s1, ys, e1, dv⟩
  by_cases lt : m < xs.length
  · refine .inr ⟨w.goes m H1 lt (hG _ s1), fun H' => Same H H' ∧ ∃ ys, H' D = some (.lst ys) ∧ DvAll K (hide (D :: N) H') ys (upTo g ds (m + 1) 0), fun H' h => ⟨xs.length - (m + 1), by omega, rfl, lt, h⟩, ?_⟩
    rintro v H2 hv0
    obtain ⟨e2, hv⟩ := w.yields m H1 v H2 lt (hG _ s1) hv0
    subst e2
    obtain ⟨r, hr, dr⟩ := al.at hv
    have hrm := List.mem_of_getElem? hr
    obtain ⟨l, hl, fl⟩ := hq r hrm
    refine ⟨w1 _, r_yes (r_true (c := true) rfl ?_)⟩
    obtain ⟨us, ⟨p, ep, hp⟩, du⟩ := dr.sk hl
    subst ep
    have hul := du.len
    have core : ∀ (J1 : It) (G1 : Hp → Prop), Walk J1 us.length G1 (YAt us) → (∀ H', Same H H' → G1 H') → ∃ W1 : Nat → Nat → Hp → Prop, (∃ m, W1 0 m H2) ∧ ∀ j k H5, W1 j k H5 →
        (J1.stop j H5 ∧ (Same H H5 ∧ ∃ ys, H5 D = some (.lst ys) ∧ DvAll K (hide (D :: N) H5) ys (upTo g ds (m + 1) 0))) ∨ (J1.go j H5 ∧ ∃ Nx1 : Hp → Prop, (∀ H', Nx1 H' → ∃ k', k' < k ∧ W1 (j + 1) k' H') ∧ ∀ x H', J1.yld j H5 x H' → gName b x (wipe ((wipe σ [a, b]).set a (some (.ref p))) [b]) H' fun σ3 H5 => wipe σ3 [b] = wipe ((wipe σ [a, b]).set a (some (.ref p))) [b] ∧ tYes σ3 H5 fun c H6 =>
          if c = true then te σ3 H6 fun y H7 => ∃ acc, H7 D = some (.lst acc) ∧ acc.length < sizeLine ∧ Nx1 (upd H7 D (.lst (acc ++ [y]))) else Nx1 H6) := by
      intro J1 G1 wk hG1
      refine ⟨fun j k H5 => k = us.length - j ∧ j ≤ us.length ∧ Same H H5 ∧ ∃ ys, H5 D = some (.lst ys) ∧ DvAll K (hide (D :: N) H5) ys (upTo g ds m j), ⟨us.length, by omega, by omega, s1, ys, e1, dv⟩, ?_⟩
      rintro j k H5 ⟨rfl, hj, s5, zs, e5, dz⟩
      by_cases lt2 : j < us.length
      · refine .inr ⟨wk.goes j H5 lt2 (hG1 _ s5), fun H' => Same H H' ∧ ∃ ys, H' D = some (.lst ys) ∧ DvAll K (hide (D :: N) H') ys (upTo g ds m (j + 1)), fun H' h => ⟨us.length - (j + 1), by omega, rfl, lt2, h⟩, ?_⟩
        rintro u H6 hu0
        obtain ⟨e6, hu⟩ := wk.yields j H5 u H6 lt2 (hG1 _ s5) hu0
        subst e6
        obtain ⟨d, hd1, dd⟩ := du.at hu
        refine ⟨w2 _ _, r_yes (r_true (c := true) rfl ?_)⟩
        refine hs _ _ d D _ (dd.same s5) ⟨r, hrm, l, hl, List.mem_of_getElem? hd1⟩ s5 ((hN.same s5).cons e5) hD _ fun y H7 s7 dy => ⟨_, s7 _ _ e5, ?_, ?_, _, upd_same, ?_⟩
        · rw [dz.len]
          exact Nat.lt_of_lt_of_le (bound m j) (by decide)
        · intro c o hc; exact kpO (s7 _ _ (s5 c o hc)) (ne_of_none hc hD)
        · rw [hide_upd, upTo_more hr hl hd1]
          exact DvAll.snoc dy (dz.same (hide_same s7))
      · have ej : j = l.length := by omega
        subst ej
        refine .inl ⟨by rw [← hul]; exact wk.stops H5 (hG1 _ s5), s5, zs, e5, ?_⟩
        rw [← upTo_next hr hl]; exact dz
    rcases hp with hp | hp
    · exact .inl ⟨_, ha _, p, rfl, ⟨us, s1.seq hp⟩, core _ _ walk_list fun H' s => s.seq hp⟩
    · exact .inr ⟨_, ha _, p, rfl, ⟨us, Jv.Same.sqT s1 hp⟩, core _ _ walk_tup fun H' s => Jv.Same.sqT s hp⟩
  · have em : m = xs.length := by omega
    subst em
    refine .inl ⟨w.stops H1 (hG _ s1), hd D ys H1 s1 hD e1 ?_⟩
    rw [hlen, upTo_end] at dv
    exact dv.same hide_less
theorem lc2D (hv : σ[i]? = some (some x)) (hx : Sk K H x xs) (al : DvAll K H xs ds) (hN : Held N H) (g : PyData → PyData)
    (hq : ∀ e ∈ ds, ∃ l, seqD e = some l ∧ l.length ≤ 100) (few : ds.length ≤ 100)
    (w1 : ∀ v, wipe ((wipe σ [a, b]).set a (some v)) [a, b] = wipe σ [a, b])
    (w2 : ∀ v u, wipe ((wipe ((wipe σ [a, b]).set a (some v)) [b]).set b (some u)) [b] = wipe ((wipe σ [a, b]).set a (some v)) [b])
    (ha : ∀ v, ((wipe σ [a, b]).set a (some v))[a]? = some (some v))
    (hs : ∀ v u d D H1, Dv K H1 u d → (∃ e ∈ ds, ∃ l, seqD e = some l ∧ d ∈ l) → Same H H1 → Held (D :: N) H1 → H D = none → ∀ P : VK, (∀ y H2, Same H1 H2 → Dv K (hide (D :: N) H2) y (g d) → P y H2) → te ((wipe ((wipe σ [a, b]).set a (some v)) [b]).set b (some u)) H1 P)
    (hd : ∀ D ys H1, Same H H1 → H D = none → H1 D = some (.lst ys) → DvAll K (hide N H1) ys (ds.flatMap (rowG g)) → Q (.ref D) H1) :
    tLc2 (fun σ H R => iList K (tVar i) σ H R ∨ iTup K (tVar i) σ H R) (gName a) tYes (fun σ H R => iList K (tVar a) σ H R ∨ iTup K (tVar a) σ H R) (gName b) tYes te [a, b] [b] σ H Q := by
  obtain ⟨p, rfl, h | h⟩ := hx
  · exact .inl ⟨_, hv, p, rfl, ⟨xs, h⟩, lc2W walk_list (fun H' s => s.seq h) al hN g hq few w1 w2 ha hs hd⟩
  · exact .inr ⟨_, hv, p, rfl, ⟨xs, h⟩, lc2W walk_tup (fun H' s => Jv.Same.sqT s h) al hN g hq few w1 w2 ha hs hd⟩
end
end Jv

/-! ### data beside an object's change; readings of fields -/
namespace Jv
open PySem PySem.Spec PyProof.Rows L2
section
variable {K : PySem.W.Frag} {H : Hp} {a C dx : Addr} {fs : List (Str × V)} {o : HO}
theorem SqT.ins (ha : H a = some (.ins C dx fs)) {b : Addr} {xs : List V} (h : SqT K H b xs) : SqT K (upd H a o) b xs := by
  rcases h with (h | ⟨u, h⟩) | h
  · exact .inl (.inl (kpO h fun e => by rw [e, ha] at h; cases h))
  · exact .inl (.inr ⟨u, kpO h fun e => by rw [e, ha] at h; cases h⟩)
  · exact .inr h
mutual
theorem Dv.ins (ha : H a = some (.ins C dx fs)) : ∀ {v : V} {d : PyData}, Dv K H v d → Dv K (upd H a o) v d
  | _, _, .non => .non
  | _, _, .bl b => .bl b
  | _, _, .int i => .int i
  | _, _, .str x => .str x
  | _, _, .lst h q => .lst (kpO h fun e => by rw [e, ha] at h; cases h) (DvAll.ins ha q)
  | _, _, .tup h q => .tup (Jv.SqT.ins ha h) (DvAll.ins ha q)
theorem DvAll.ins (ha : H a = some (.ins C dx fs)) : ∀ {vs : List V} {ds : List PyData}, DvAll K H vs ds → DvAll K (upd H a o) vs ds
  | _, _, .nil => .nil
  | _, _, .cons x y => .cons (Dv.ins ha x) (DvAll.ins ha y)
end
theorem r_sfld {ta tv : TE} {f : Str} {D : Ends} {σ : L2.St} (h : tv σ H fun y H1 => ta σ H1 fun x H2 => ∃ a C dx fs, x = .ref a ∧ H2 a = some (.ins C dx fs) ∧ Cls K C ∧ NoAttr K C f ∧ fs.length < 1000 ∧
  D.nx σ (upd H2 a (.ins C dx (putF f y fs)))) : sFld K ta tv f D σ H := h
theorem r_fld {ta : TE} {f : Str} {σ : L2.St} {Q : VK} (h : ta σ H fun x H1 => ∃ a C dx fs v, x = .ref a ∧ H1 a = some (.ins C dx fs) ∧ Cls K C ∧ NoAttr K C f ∧ fs.lookup f = some v ∧ Q v H1) : tFld K ta f σ H Q := h
end
/-- a new tuple of data -/
theorem dv_new {K : PySem.W.Frag} {H : Hp} {N : List Addr} {t : Addr} {xs : List V} {ds : List PyData} (n : H t = none) (hN : Held N H) (h : DvAll K (hide N H) xs ds) : Dv K (hide N (upd H t (.tup xs))) (.ref t) (.tuple ds) :=
  .tup (sqT_at (hide_at (hN.new n) upd_same)) (h.same (hide_same (same_new n)))
theorem dv_newL {K : PySem.W.Frag} {H : Hp} {N : List Addr} {t : Addr} {xs : List V} {ds : List PyData} (n : H t = none) (hN : Held N H) (h : DvAll K (hide N H) xs ds) : Dv K (hide N (upd H t (.lst xs))) (.ref t) (.list ds) :=
  .lst (hide_at (hN.new n) upd_same) (h.same (hide_same (same_new n)))
end Jv

/-! ### comprehensions over what an expression gives; filters of numbers -/
namespace Jv
open PySem PySem.Spec PyProof.Rows L2
section
variable {K : PySem.W.Frag} {σ : L2.St} {H : Hp} {te te0 : TE} {tt : TT} {Q : VK} {xs : List V} {es : List PyData} {j i n : Nat} {x : V} {N : List Addr}
theorem lcS3 (hit : ∀ P : VK, P x H → te0 σ H P) (hx : Sk K H x xs) (hN : Held N H) (es : List PyData) (hl : es.length = xs.length) (few : xs.length ≤ 1000)
    (hs : ∀ i v e D H1, i < xs.length → xs[i]? = some v → es[i]? = some e → Same H H1 → Held (D :: N) H1 → H D = none → ∀ P : VK, (∀ y H2, Same H1 H2 → Dv K (hide (D :: N) H2) y e → P y H2) → te ((σ.set j none).set j (some v)) H1 P)
    (hd : ∀ D ys H1, Same H H1 → H D = none → H1 D = some (.lst ys) → DvAll K (hide N H1) ys es → DvAll K (hide (D :: N) H1) ys es → Q (.ref D) H1) : tLc (fun σ H R => iList K te0 σ H R ∨ iTup K te0 σ H R) (gName j) tYes te [j] σ H Q := by
  obtain ⟨a, rfl, h | h⟩ := hx
  · exact .inl (hit _ ⟨a, rfl, ⟨xs, h⟩, lcD walk_list (fun H' s => s.seq h) yat hN es hl few hs hd⟩)
  · exact .inr (hit _ ⟨a, rfl, ⟨xs, h⟩, lcD walk_tup (fun H' s => Jv.Same.sqT s h) yat hN es hl few hs hd⟩)
theorem filter_more {f : Int → Bool} {ns : List Int} {i : Nat} {z : Int} (h : ns[i]? = some z) : (ns.take (i + 1)).filter f = (ns.take i).filter f ++ if f z = true then [z] else [] := by
  rw [take_more h, List.filter_append]
  congr 1
  by_cases c : f z = true
  · simp [c]
  · simp [c]
/-- the numbers of a list or a tuple at which a test holds -/
theorem lcFW {J : It} {G : Hp → Prop} {ns : List Int} (w : Walk J (ns.map V.int).length G (YAt (ns.map V.int))) (hG : ∀ H', Same H H' → G H') (f : Int → Bool) (few : ns.length ≤ 1000)
    (ht : ∀ z H1, z ∈ ns → Same H H1 → ∀ R : Bool → Hp → Prop, (∀ H2, Same H1 H2 → R (f z) H2) → tt ((σ.set j none).set j (some (.int z))) H1 R)
    (hs : ∀ z H1, ∀ P : VK, P (.int z) H1 → te ((σ.set j none).set j (some (.int z))) H1 P)
    (hd : ∀ D H1, Same H H1 → H D = none → H1 D = some (.lst ((ns.filter f).map V.int)) → Q (.ref D) H1) : ∀ D, H D = none → ∃ W : Nat → Nat → Hp → Prop, (∃ m, W 0 m (upd H D (.lst []))) ∧ ∀ i m H, W i m H →
      (J.stop i H ∧ Q (.ref D) H) ∨ (J.go i H ∧ ∃ Nx : Hp → Prop, (∀ H', Nx H' → ∃ m', m' < m ∧ W (i + 1) m' H') ∧ ∀ x H', J.yld i H x H' → gName j x (wipe σ [j]) H' fun σ2 H2 => wipe σ2 [j] = wipe σ [j] ∧ tt σ2 H2 fun b H3 =>
        if b = true then te σ2 H3 fun y H4 => ∃ acc, H4 D = some (.lst acc) ∧ acc.length < sizeLine ∧ Nx (upd H4 D (.lst (acc ++ [y]))) else Nx H3) := by
  intro D hD
  refine lc_it w (fun i H1 => Same H H1 ∧ H1 D = some (.lst (((ns.take i).filter f).map V.int))) ⟨same_new hD, upd_same⟩ (fun i H1 _ h => hG H1 h.1) ?_ ?_
  · rintro i x H1 H2 hi ⟨s1, e1⟩ ⟨e0, hx⟩
    subst e0
    obtain ⟨z, hz, rfl⟩ := map_at hx
    refine ⟨wipe1, ht z _ (List.mem_of_getElem? hz) s1 _ fun H3 s3 => ?_⟩
    have e3 := s3 _ _ e1
    by_cases c : f z = true
    · rw [if_pos c]
      refine hs z H3 _ ⟨_, e3, ?_, fun b o e => kpO (s3 _ _ (s1 b o e)) (ne_of_none e hD), ?_⟩
      · rw [List.length_map]
        refine small_lt (Nat.lt_of_le_of_lt (List.length_filter_le _ _) ?_)
        rw [List.length_map] at hi
        rw [List.length_take]; omega
      · rw [upd_same, filter_more hz, if_pos c, List.map_append]; rfl
    · rw [if_neg c]
      refine ⟨s1.trans s3, ?_⟩
      rw [filter_more hz, if_neg c, List.append_nil]; exact e3
  · rintro H1 ⟨s1, e1⟩
    rw [List.length_map, List.take_length] at e1
    exact hd D H1 s1 hD e1
theorem lcF2 {ns : List Int} (hv : σ[i]? = some (some x)) (hx : Sk K H x (ns.map V.int)) (f : Int → Bool) (few : ns.length ≤ 1000)
    (ht : ∀ z H1, z ∈ ns → Same H H1 → ∀ R : Bool → Hp → Prop, (∀ H2, Same H1 H2 → R (f z) H2) → tt ((σ.set j none).set j (some (.int z))) H1 R)
    (hs : ∀ z H1, ∀ P : VK, P (.int z) H1 → te ((σ.set j none).set j (some (.int z))) H1 P)
    (hd : ∀ D H1, Same H H1 → H D = none → H1 D = some (.lst ((ns.filter f).map V.int)) → Q (.ref D) H1) : tLc (fun σ H R => iList K (tVar i) σ H R ∨ iTup K (tVar i) σ H R) (gName j) tt te [j] σ H Q := by
  obtain ⟨a, rfl, h | h⟩ := hx
  · exact .inl ⟨_, hv, a, rfl, ⟨_, h⟩, lcFW walk_list (fun H' s => s.seq h) f few ht hs hd⟩
  · exact .inr ⟨_, hv, a, rfl, ⟨_, h⟩, lcFW walk_tup (fun H' s => Jv.Same.sqT s h) f few ht hs hd⟩
end
end Jv

/-! ### comprehensions whose results are lists of the program's own -/
namespace Jv
open PySem PySem.Spec PyProof.Rows L2
section
variable {K : PySem.W.Frag} {σ : L2.St} {H : Hp} {te te0 : TE} {tt : TT} {Q : VK} {xs : List V} {j n : Nat} {x : V} {J : It} {G : Hp → Prop} {Y : Nat → Hp → V → Hp → Prop} {Fx : Nat → V → Prop} {F : Nat → List V}
theorem lcOwnD (w : Walk J n G Y) (hG : ∀ H', Same H H' → G H') (hy : ∀ i H x H', i < n → Y i H x H' → H' = H ∧ Fx i x) (F : Nat → List V) (few : n ≤ 1000)
    (hs : ∀ i v D H1, i < n → Fx i v → Same H H1 → H D = none → ∀ P : VK, (∀ t H2, H1 t = none → Same H1 H2 → H2 t = some (.lst (F i)) → P (.ref t) H2) → te ((σ.set j none).set j (some v)) H1 P)
    (hd : ∀ D (As : List Addr) H1, Same H H1 → H D = none → As.length = n → As.Nodup → D ∉ As → (∀ b ∈ As, H b = none) → H1 D = some (.lst (As.map V.ref)) → (∀ (k : Nat) b, As[k]? = some b → H1 b = some (.lst (F k))) → Q (.ref D) H1) : ∀ D, H D = none → ∃ W : Nat → Nat → Hp → Prop, (∃ m, W 0 m (upd H D (.lst []))) ∧ ∀ i m H, W i m H →
      (J.stop i H ∧ Q (.ref D) H) ∨ (J.go i H ∧ ∃ Nx : Hp → Prop, (∀ H', Nx H' → ∃ m', m' < m ∧ W (i + 1) m' H') ∧ ∀ x H', J.yld i H x H' → gName j x (wipe σ [j]) H' fun σ2 H2 => wipe σ2 [j] = wipe σ [j] ∧ tYes σ2 H2 fun b H3 =>
        if b = true then te σ2 H3 fun y H4 => ∃ acc, H4 D = some (.lst acc) ∧ acc.length < sizeLine ∧ Nx (upd H4 D (.lst (acc ++ [y]))) else Nx H3) := by
  intro D hD
  refine lc_it w (fun i H1 => Same H H1 ∧ ∃ As : List Addr, As.length = i ∧ As.Nodup ∧ D ∉ As ∧ (∀ b ∈ As, H b = none) ∧ H1 D = some (.lst (As.map V.ref)) ∧ ∀ (k : Nat) b, As[k]? = some b → H1 b = some (.lst (F k)))
    ⟨same_new hD, [], rfl, List.nodup_nil, List.not_mem_nil, fun b m => (by cases m), upd_same, fun k b e => (by simp at e)⟩ (fun i H1 _ h => hG H1 h.1) ?_ ?_
  · rintro i x H1 H2 hi ⟨s1, As, e0, nd, nD, hn, e1, al⟩ hx
    obtain ⟨e2, hF⟩ := hy i _ _ _ hi hx
    subst e2
    refine ⟨wipe1, ?_⟩
    refine r_yes ?_
    refine r_true (c := true) rfl ?_
    refine hs i x D _ hi hF s1 hD _ fun t H3 ht s3 et => ?_
    have htA : t ∉ As := fun m => by
      obtain ⟨k, hk, e⟩ := List.getElem_of_mem m
      have := al k t (by rw [List.getElem?_eq_getElem hk, e])
      rw [ht] at this; cases this
    have htD : t ≠ D := fun e => by rw [e, e1] at ht; cases ht
    have htH : H t = none := s1.free ht
    refine ⟨_, s3 _ _ e1, ?_, fun b o e => kpO (s3 _ _ (s1 b o e)) (ne_of_none e hD), As ++ [t], by rw [List.length_append, e0]; rfl, ?_, ?_, ?_, by rw [upd_same, List.map_append]; rfl, ?_⟩
    · rw [List.length_map, e0]; exact small_lt (by omega)
    · refine List.nodup_append.mpr ⟨nd, by simp, fun a ha b hb => ?_⟩
      rw [List.mem_singleton.mp hb]
      exact fun e => htA (e ▸ ha)
    · intro m
      rcases List.mem_append.mp m with m | m
      · exact nD m
      · exact htD (List.mem_singleton.mp m).symm
    · intro b m
      rcases List.mem_append.mp m with m | m
      · exact hn b m
      · rw [List.mem_singleton.mp m]; exact htH
    · intro k b e
      have nb : b ≠ D := fun eb => by
        rw [eb] at e
        rcases List.mem_append.mp (List.mem_of_getElem? e) with m | m
        · exact nD m
        · exact htD (List.mem_singleton.mp m).symm
      rw [upd_ne nb]
      by_cases hk : k < As.length
      · rw [List.getElem?_append_left hk] at e
        exact s3 _ _ (al k b e)
      · have h2 := (List.getElem?_eq_some_iff.mp e).1
        rw [List.length_append] at h2
        have h3 : k = As.length := by simp at h2; omega
        subst h3
        rw [List.getElem?_append_right (Nat.le_refl _), Nat.sub_self] at e
        cases e
        rw [e0]; exact et
  · rintro H1 ⟨s1, As, e0, nd, nD, hn, e1, al⟩
    exact hd D As H1 s1 hD e0 nd nD hn e1 al
/-- over what an expression gives -/
theorem lcOwn (hit : ∀ P : VK, P x H → te0 σ H P) (hx : Sk K H x xs) (F : Nat → List V) (few : xs.length ≤ 1000)
    (hs : ∀ i v D H1, i < xs.length → xs[i]? = some v → Same H H1 → H D = none → ∀ P : VK, (∀ t H2, H1 t = none → Same H1 H2 → H2 t = some (.lst (F i)) → P (.ref t) H2) → te ((σ.set j none).set j (some v)) H1 P)
    (hd : ∀ D (As : List Addr) H1, Same H H1 → H D = none → As.length = xs.length → As.Nodup → D ∉ As → (∀ b ∈ As, H b = none) → H1 D = some (.lst (As.map V.ref)) → (∀ (k : Nat) b, As[k]? = some b → H1 b = some (.lst (F k))) → Q (.ref D) H1) : tLc (fun σ H R => iList K te0 σ H R ∨ iTup K te0 σ H R) (gName j) tYes te [j] σ H Q := by
  obtain ⟨a, rfl, h | h⟩ := hx
  · exact .inl (hit _ ⟨a, rfl, ⟨xs, h⟩, lcOwnD walk_list (fun H' s => s.seq h) yat F few hs hd⟩)
  · exact .inr (hit _ ⟨a, rfl, ⟨xs, h⟩, lcOwnD walk_tup (fun H' s => Jv.Same.sqT s h) yat F few hs hd⟩)
theorem lcOwn2 {i : Nat} (hv : σ[i]? = some (some x)) (hx : Sk K H x xs) (F : Nat → List V) (few : xs.length ≤ 1000)
    (hs : ∀ i v D H1, i < xs.length → xs[i]? = some v → Same H H1 → H D = none → ∀ P : VK, (∀ t H2, H1 t = none → Same H1 H2 → H2 t = some (.lst (F i)) → P (.ref t) H2) → te ((σ.set j none).set j (some v)) H1 P)
    (hd : ∀ D (As : List Addr) H1, Same H H1 → H D = none → As.length = xs.length → As.Nodup → D ∉ As → (∀ b ∈ As, H b = none) → H1 D = some (.lst (As.map V.ref)) → (∀ (k : Nat) b, As[k]? = some b → H1 b = some (.lst (F k))) → Q (.ref D) H1) : tLc (fun σ H R => iList K (tVar i) σ H R ∨ iTup K (tVar i) σ H R) (gName j) tYes te [j] σ H Q :=
  lcOwn (fun P hP => ⟨_, hv, hP⟩) hx F few hs hd
end
/-- data, item by item -/
theorem dvAll_mk {K : PySem.W.Frag} {H : Hp} : ∀ {vs : List V} {ds : List PyData}, vs.length = ds.length → (∀ (i : Nat) v d, vs[i]? = some v → ds[i]? = some d → Dv K H v d) → DvAll K H vs ds
  | [], [], _, _ => .nil
  | v :: vs, d :: ds, hl, h => .cons (h 0 v d rfl rfl) (dvAll_mk (by simpa using hl) fun i v d h1 h2 => h (i + 1) v d h1 h2)
/-- what each item of a row of rows holds -/
theorem rows_of {K : PySem.W.Frag} {H : Hp} {vs : List V} {ds : List PyData} (h : DvAll K H vs ds) (hs : ∀ d ∈ ds, (seqD d).isSome = true) : ∃ F : Nat → List V, ∀ (i : Nat) v d, vs[i]? = some v → ds[i]? = some d → Sk K H v (F i) ∧ ∃ es, seqD d = some es ∧ DvAll K H (F i) es := by
  have h1 : ∀ i : Nat, ∃ X : List V, ∀ v d, vs[i]? = some v → ds[i]? = some d → Sk K H v X ∧ ∃ es, seqD d = some es ∧ DvAll K H X es := fun i => by
    cases e : vs[i]? with
    | none => exact ⟨[], fun v d h _ => by cases h⟩
    | some v =>
      obtain ⟨d, e2, hd⟩ := h.at e
      obtain ⟨es, e3⟩ := Option.isSome_iff_exists.mp (hs d (List.mem_of_getElem? e2))
      obtain ⟨X, k1, k2⟩ := hd.sk e3
      refine ⟨X, fun v' d' h1 h2 => ?_⟩
      cases h1
      rw [e2] at h2; cases h2
      exact ⟨k1, es, e3, k2⟩
  exact ⟨fun i => Classical.choose (h1 i), fun i => Classical.choose_spec (h1 i)⟩
end Jv

/-! ### several except clauses, some with a name -/
namespace Jv
open PySem PySem.Spec PyProof.Rows L2
/-- a suite with the exception's name at slot i -/
def sNamed (i : Nat) (ts : Addr → Value → Option Addr → TS) : Addr → Value → Option Addr → TS := fun e k d D τ H =>
  ts e k d { nx := fun ρ G => D.nx (ρ.set i none) G, rt := D.rt, bk := fun ρ G => D.bk (ρ.set i none) G, ct := fun ρ G => D.ct (ρ.set i none) G } (τ.set i (some (.ref e))) H
inductive Cls2 (X : Cx) : List ExceptHandler → List (Value × (Addr → Value → Option Addr → TS)) → Prop
  | nil : Cls2 X [] []
  | bare {nm : Str} {k : Value} {ts : Addr → Value → Option Addr → TS} {st : Stmt} {sts : List Stmt} {p1 p2 : Pos} {hl : List ExceptHandler} {wl : List (Value × (Addr → Value → Option Addr → TS))} (hk : Names X nm k)
      (su : ∀ (e : Addr) (ob : Obj) (kd : Value) (d : Option Addr) (pq : List (Addr × Obj)), Zc kd d ob → (∃ fs, ob.data = .fields fs) → PSs (X.suite e ((e, ob) :: pq)) (st :: sts) (ts e kd d)) (more : Cls2 X hl wl) :
      Cls2 X (.ExceptHandler (some (.Name nm p1)) none (st :: sts) p2 :: hl) ((k, ts) :: wl)
  | named {nm n : Str} {i : Nat} {k : Value} {ts : Addr → Value → Option Addr → TS} {st : Stmt} {sts : List Stmt} {p1 p2 : Pos} {hl : List ExceptHandler} {wl : List (Value × (Addr → Value → Option Addr → TS))} (nd : X.N.Nodup) (ix : X.N[i]? = some n) (lc : X.env.kindOf n = some .local) (hk : Names X nm k)
      (su : ∀ (e : Addr) (ob : Obj) (kd : Value) (d : Option Addr) (pq : List (Addr × Obj)), Zc kd d ob → (∃ fs, ob.data = .fields fs) → PSs (X.suite e ((e, ob) :: pq)) (st :: sts) (ts e kd d)) (more : Cls2 X hl wl) :
      Cls2 X (.ExceptHandler (some (.Name nm p1)) (some n) (st :: sts) p2 :: hl) ((k, sNamed i ts) :: wl)
section
variable {X : Cx} {body : List Stmt} {h1 : ExceptHandler} {hl : List ExceptHandler} {wl : List (Value × (Addr → Value → Option Addr → TS))} {pos : Pos} {tb : WX → TS} {Wo : WX}
theorem ps_tryMix (hst : X.stack = X.env :: X.outer) (hfr0 : X.env.frame = some X.env.locals) (tk : Takes X Wo) (hh : Cls2 X (h1 :: hl) wl)
    (hb : ∀ (W : WX) (pq : List (Addr × Obj)) (xe : Value → Shared → Prop), Takes (X.tr pq xe) W → PassesOwn (model X.prog X.w) X.A X.env xe → PSs (X.tr pq xe) body (tb W)) :
    PS X (.Try body (h1 :: hl) [] [] pos) (fun D τ H => tb (wMany X.K Wo D wl) D τ H) := by
  refine ⟨fun pins s τ H D I wish => ?_⟩
  have iok := I.ok
  have afr : X.A.frames = some (X.env :: X.outer) := by rw [iok.frames, hst]
  refine wpAny_Try_except ?_
  refine wpAny_mono ((hb (wMany X.K Wo D wl) (X.pn ++ pins) (fun u r1 => wpAny (model X.prog X.w) X.A (noteFrame u X.env) (fun _ r2 => wpAny (model X.prog X.w) X.A (setFlight u none) (fun _ r3 =>
    wpAny (model X.prog X.w) X.A (handleBy u X.env (h1 :: hl)) (SP X pins D) X.xe r3) X.xe r2) X.xe r1) (fun u t xx => ?_) PassesOwn.looking).run [] s τ H D (I.toTry _) wish) (fun f t hsp => ?_) (fun u t he => he)
  · obtain ⟨e, B, sI, pq, ρ, G, kd, d, rfl, J0, nb, up, sky0, ne, os, ag, w⟩ := xx
    have J : Inv X pins ρ G sI := J0.ofTry iok
    have sky : Sky B (X.env :: X.outer) e (Zc kd d) X.env.locals t.heap := by rw [← hst]; exact sky0
    show wpAny (model X.prog X.w) X.A (noteFrame (.ref e) X.env) _ _ _
    refine Sky.land Zc.steady afr hfr0 sky fun g3 fl3 up3 => ?_
    have J3 : Inv X pins ρ G { t with heap := g3 } := J.landed nb fl3.1 (up.trans up3) os ag
    obtain ⟨ob3, fs3, at3, z3, dt3⟩ := fl3.there
    have notIn : e ∉ frs (X.env :: X.outer) := fun m => by
      obtain ⟨_, ob, at', hn⟩ := fl3.2.2.1.mem m
      rw [at3] at at'; cases at'
      exact hn _ dt3
    have nLoc : e ≠ X.env.locals := fun z => notIn (List.mem_filterMap.mpr ⟨X.env, List.mem_cons_self, by rw [hfr0, z]⟩)
    have nFs : e ∉ X.fs := fun m => by
      obtain ⟨v, hv, q⟩ := List.mem_filterMap.mp m
      exact notIn (List.mem_filterMap.mpr ⟨v, List.mem_cons_of_mem _ hv, q⟩)
    have S3 := J3.suite at3 dt3 ne nLoc nFs
    have look : PySem.W.Looks (model X.prog X.w) g3 (typeOf (.ref e)) kd := fun A Q E r k q => wpAny_typeOf_ref (k _ _ at3) (by rw [z3.1]; exact q)
    have test : ∀ {nm : Str} {p1 : Pos} {k : Value} {Q : Value → Shared → Prop} {E : Value → Shared → Prop}, Names X nm k → Q k { t with heap := g3 } → wpAny (model X.prog X.w) (X.A.mark (some (.ref e))) (eval (.Name nm p1) X.env) Q E { t with heap := g3 } := fun {nm p1 k Q E} hk q => by
      obtain ⟨hg, hdb, hm | ⟨hm, hv, hnn⟩⟩ := hk
      · exact ld_glob (X := X.suite e ((e, ob3) :: (X.pn ++ pins))) S3 hg hm q hdb
      · exact ld_blt (X := X.suite e ((e, ob3) :: (X.pn ++ pins))) S3 hg hm hv q hnn hdb
    have all : ∀ {hl2 : List ExceptHandler} {wl2 : List (Value × (Addr → Value → Option Addr → TS))}, Cls2 X hl2 wl2 → wMany X.K Wo D wl2 kd d ρ G →
        wpAny (model X.prog X.w) X.A (handleBy (.ref e) X.env hl2) (SP X pins D) X.xe { t with heap := g3 } := by
      intro hl2 wl2 hc
      induction hc with
      | nil =>
        intro w
        refine wpAny_handleBy_nil ?_
        obtain ⟨k1, k2, k3, ob, fs, T, oT, us, he, hz, hd, hh1, hr⟩ := id fl3
        unfold PySem.passOn
        refine wpAny_bind (wpAny_field he hd hh1 ?_)
        rw [if_neg (show ¬ ((Value.ref T == Value.none) = true) from by simp)]
        have fin : wpAny (model X.prog X.w) X.A (setFlight (.ref e) X.env.frame) (fun _ r4 => wpAny (model X.prog X.w) X.A (throw (.ref e) : Sem Flow) (SP X pins D) X.xe r4) X.xe { t with heap := g3 } := by
          rw [hfr0]
          refine HandSPX.setFlight_upZ fl3 fun g4 hg4 up4 => wpAny_throw (tk _ _ ?_)
          exact ⟨e, B, sI, pins, ρ, G, kd, d, rfl, J, nb, (up.trans up3).trans up4, .inr (.inr (by rw [hst]; exact hg4)), ne, os, ag, w⟩
        first
          | exact wpAny_bind (wpAny_pure (wpAny_bind fin))
          | exact wpAny_bind fin
      | @bare nm k ts st sts p1 p2 hl3 wl3 hk su more ih =>
        intro w
        obtain ⟨b, hb1, yes, no⟩ := w
        refine wpAny_handleBy_cons (codeAny_handlers_test ?_) (by intro q; cases q)
        refine test hk ((PySem.W.exm_one (M := model X.prog X.w) (J3.kIn) look hb1).here ?_)
        cases b with
        | true =>
          refine codeAny_handlers_suite ?_
          refine HandSPX.lands_againZ fl3 fun g4 fl4 up4 => ?_
          have J4 : Inv X pins ρ G { t with heap := g4 } := J.landed nb fl4.1 ((up.trans up3).trans up4) os ag
          obtain ⟨ob4, fs4, at4, z4, dt4⟩ := fl4.there
          have S4 := J4.suite at4 dt4 ne nLoc nFs
          refine wpAny_mono ((su e ob4 kd d (X.pn ++ pins) z4 ⟨_, dt4⟩).run [] _ _ G _ S4 (yes rfl e ne)) (fun f r6 hsp => ?_) (fun _ _ z => False.elim z)
          cases f with
          | ret u =>
            obtain ⟨v6, τ6, G6, S6, rel6, q6⟩ := hsp
            exact ⟨_, _, _, S6.unsuite iok, rel6, q6⟩
          | _ =>
            obtain ⟨τ6, G6, S6, q6⟩ := hsp
            exact ⟨_, _, S6.unsuite iok, q6⟩
        | false =>
          show wpAny _ X.A (handleBy (.ref e) X.env hl3) _ _ _
          exact ih (no rfl)
      | @named nm n i k ts st sts p1 p2 hl3 wl3 nd ix lc hk su more ih =>
        intro w
        obtain ⟨b, hb1, yes, no⟩ := w
        refine wpAny_handleBy_cons (codeAny_handlers_test ?_) (by intro q; cases q)
        refine test hk ((PySem.W.exm_one (M := model X.prog X.w) (J3.kIn) look hb1).here ?_)
        cases b with
        | true =>
          refine codeAny_handlers_suite_as ?_
          refine HandSPX.lands_againZ fl3 fun g4 fl4 up4 => ?_
          have J4 : Inv X pins ρ G { t with heap := g4 } := J.landed nb fl4.1 ((up.trans up3).trans up4) os ag
          obtain ⟨ob4, fs4, at4, z4, dt4⟩ := fl4.there
          have S4 := J4.suite at4 dt4 ne nLoc nFs
          refine store_ok (X := X.suite e ((e, ob4) :: (X.pn ++ pins))) (v := .ref e) S4 nd ix (.inl lc) rfl (fun r5 S5 => ?_) (.inr lc)
          refine wpAny_mono ((su e ob4 kd d (X.pn ++ pins) z4 ⟨_, dt4⟩).run [] r5 _ G _ S5 (yes rfl e ne)) (fun f r6 hsp => ?_) (fun _ _ z => False.elim z)
          have goes : ∀ {τ6 : L2.St} {G6 : Hp} {Q : Shared → Prop}, Inv (X.suite e ((e, ob4) :: (X.pn ++ pins))) [] τ6 G6 r6 → (∀ r7, Inv X pins (τ6.set i none) G6 r7 → Q r7) →
              wpAny (model X.prog X.w) X.A (do bindName X.env n .none; unbindBehindTheSuite X.env n p2) (fun _ r7 => Q r7) X.xe r6 := fun {τ6 G6 Q} S6 hq => gone_ok (S6.unsuite iok) nd ix lc hq
          cases f with
          | ret u =>
            obtain ⟨v6, τ6, G6, S6, rel6, q6⟩ := hsp
            exact goes S6 fun r7 J7 => ⟨_, _, _, J7, rel6, q6⟩
          | _ =>
            obtain ⟨τ6, G6, S6, q6⟩ := hsp
            exact goes S6 fun r7 J7 => ⟨_, _, J7, q6⟩
        | false =>
          show wpAny _ X.A (handleBy (.ref e) X.env hl3) _ _ _
          exact ih (no rfl)
    exact all hh w
  · cases f with
    | next =>
      obtain ⟨ρ, G, J0, q⟩ := hsp
      exact wpAny_execs_nil ⟨ρ, G, J0.ofTry iok, q⟩
    | ret u =>
      obtain ⟨v, ρ, G, J0, rel, q⟩ := hsp
      exact ⟨v, ρ, G, J0.ofTry iok, rel, q⟩
    | _ =>
      obtain ⟨ρ, G, J0, q⟩ := hsp
      exact ⟨ρ, G, J0.ofTry iok, q⟩
end
end Jv

/-! ### trees of lists that are new: each list at its own place, so that one may change -/
namespace Jv
open PySem PySem.Spec PyProof.Rows L2
mutual
inductive Ft (K : PySem.W.Frag) (H : Hp) : V → PyData → List Addr → Prop
  | non : Ft K H .non .none []
  | bl (b : Bool) : Ft K H (.bl b) (.bool b) []
  | int (i : Int) : Ft K H (.int i) (.int i) []
  | str (x : Str) : Ft K H (.str x) (.str x) []
  | lst {a : Addr} {xs : List V} {ds : List PyData} {A : List Addr} : H a = some (.lst xs) → FtAll K H xs ds A → a ∉ A → Ft K H (.ref a) (.list ds) (a :: A)
inductive FtAll (K : PySem.W.Frag) (H : Hp) : List V → List PyData → List Addr → Prop
  | nil : FtAll K H [] [] []
  | cons {v : V} {vs : List V} {d : PyData} {ds : List PyData} {A B : List Addr} : Ft K H v d A → FtAll K H vs ds B → (∀ a ∈ A, a ∉ B) → FtAll K H (v :: vs) (d :: ds) (A ++ B)
end
mutual
theorem Ft.dv {K : PySem.W.Frag} {H : Hp} : ∀ {v : V} {d : PyData} {A : List Addr}, Ft K H v d A → Dv K H v d
  | _, _, _, .non => .non
  | _, _, _, .bl b => .bl b
  | _, _, _, .int i => .int i
  | _, _, _, .str x => .str x
  | _, _, _, .lst h q _ => .lst h (FtAll.dv q)
theorem FtAll.dv {K : PySem.W.Frag} {H : Hp} : ∀ {vs : List V} {ds : List PyData} {A : List Addr}, FtAll K H vs ds A → DvAll K H vs ds
  | _, _, _, .nil => .nil
  | _, _, _, .cons a b _ => .cons (Ft.dv a) (FtAll.dv b)
end
mutual
/-- what is kept at the tree's own places keeps the tree -/
theorem Ft.keep {K : PySem.W.Frag} {H H' : Hp} : ∀ {v : V} {d : PyData} {A : List Addr}, Ft K H v d A → (∀ a ∈ A, ∀ o, H a = some o → H' a = some o) → Ft K H' v d A
  | _, _, _, .non, _ => .non
  | _, _, _, .bl b, _ => .bl b
  | _, _, _, .int i, _ => .int i
  | _, _, _, .str x, _ => .str x
  | _, _, _, .lst h q n, s => .lst (s _ List.mem_cons_self _ h) (FtAll.keep q fun a m => s a (List.mem_cons_of_mem _ m)) n
theorem FtAll.keep {K : PySem.W.Frag} {H H' : Hp} : ∀ {vs : List V} {ds : List PyData} {A : List Addr}, FtAll K H vs ds A → (∀ a ∈ A, ∀ o, H a = some o → H' a = some o) → FtAll K H' vs ds A
  | _, _, _, .nil, _ => .nil
  | _, _, _, .cons a b n, s => .cons (Ft.keep a fun c m => s c (List.mem_append_left _ m)) (FtAll.keep b fun c m => s c (List.mem_append_right _ m)) n
end
section
variable {K : PySem.W.Frag} {H H' : Hp}
theorem FtAll.ints : ∀ ns : List Int, FtAll K H (ns.map V.int) (ns.map PyData.int) []
  | [] => .nil
  | a :: r => by
    have h := FtAll.cons (A := []) (B := []) (Ft.int (K := K) (H := H) a) (FtAll.ints r) (fun _ m => nomatch m)
    exact h
theorem FtAll.app : ∀ {vs ws : List V} {ds es : List PyData} {A B : List Addr}, FtAll K H vs ds A → FtAll K H ws es B → (∀ a ∈ A, a ∉ B) → FtAll K H (vs ++ ws) (ds ++ es) (A ++ B)
  | _, _, _, _, _, _, .nil, q, _ => q
  | _, ws, _, es, _, B, .cons (A := A1) (B := B1) a b n, q, dj => by
    rw [List.cons_append, List.cons_append, List.append_assoc]
    refine .cons a (FtAll.app b q fun c m => dj c (List.mem_append_right _ m)) fun c m => ?_
    intro m2
    rcases List.mem_append.mp m2 with h | h
    · exact n c m h
    · exact dj c (List.mem_append_left _ m) h
theorem FtAll.len : ∀ {vs : List V} {ds : List PyData} {A : List Addr}, FtAll K H vs ds A → vs.length = ds.length
  | _, _, _, .nil => rfl
  | _, _, _, .cons _ b _ => congrArg (· + 1) (FtAll.len b)
/-- one of them, and what a change within it makes of all -/
theorem FtAll.chg : ∀ {vs : List V} {ds : List PyData} {A : List Addr} {i : Nat} {v : V}, FtAll K H vs ds A → vs[i]? = some v → ∃ d B, ds[i]? = some d ∧ Ft K H v d B ∧ (∀ a ∈ B, a ∈ A) ∧
    (∀ w e H', (∀ a ∈ A, a ∉ B → ∀ o, H a = some o → H' a = some o) → Dv K H' w e → DvAll K H' (vs.set i w) (ds.set i e))
  | _, _, _, _, _, .nil, e => by simp at e
  | _, _, _, 0, v, .cons (A := A1) (B := B1) a b n, e => by
    simp at e; subst e
    refine ⟨_, A1, rfl, a, fun c m => List.mem_append_left _ m, fun w e H' s dv => ?_⟩
    exact .cons dv (b.keep fun c m => s c (List.mem_append_right _ m) fun m2 => n c m2 m).dv
  | _, _, _, i + 1, v, .cons (A := A1) (B := B1) a b n, e => by
    simp at e
    obtain ⟨d, B, h1, h2, h3, h4⟩ := FtAll.chg b e
    refine ⟨d, B, h1, h2, fun c m => List.mem_append_right _ (h3 c m), fun w e H' s dv => ?_⟩
    refine .cons (a.keep fun c m => s c (List.mem_append_left _ m) fun m2 => n c m (h3 c m2)).dv (h4 w e H' (fun c m m2 => s c (List.mem_append_right _ m) m2) dv)
mutual
theorem Ft.held : ∀ {v : V} {d : PyData} {A : List Addr}, Ft K H v d A → ∀ a ∈ A, ∃ xs, H a = some (.lst xs)
  | _, _, _, .lst h q _, a, m => by
    rcases List.mem_cons.mp m with rfl | m
    · exact ⟨_, h⟩
    · exact FtAll.held q a m
theorem FtAll.held : ∀ {vs : List V} {ds : List PyData} {A : List Addr}, FtAll K H vs ds A → ∀ a ∈ A, ∃ xs, H a = some (.lst xs)
  | _, _, _, .cons x y _, a, m => by
    rcases List.mem_append.mp m with m | m
    · exact Ft.held x a m
    · exact FtAll.held y a m
end
theorem Ft.same {v : V} {d : PyData} {A : List Addr} (h : Ft K H v d A) (s : Same H H') : Ft K H' v d A := h.keep fun a _ o e => s a o e
end
section
variable {K : PySem.W.Frag} {σ : L2.St} {H : Hp} {te te0 : TE} {Q : VK} {xs : List V} {es : List PyData} {j i n : Nat} {x : V} {J : It} {G : Hp → Prop} {Y : Nat → Hp → V → Hp → Prop} {F : Nat → V → Prop}
theorem lcNew (w : Walk J n G Y) (hG : ∀ H', Same H H' → G H') (hy : ∀ i H x H', i < n → Y i H x H' → H' = H ∧ F i x) (es : List PyData) (hl : es.length = n) (few : n ≤ 1000)
    (hs : ∀ i v e D H1, i < n → F i v → es[i]? = some e → Same H H1 → H D = none → (∃ o, H1 D = some o) → ∀ P : VK, (∀ y A H2, Same H1 H2 → Ft K H2 y e A → (∀ a ∈ A, H1 a = none) → P y H2) → te ((σ.set j none).set j (some v)) H1 P)
    (hd : ∀ D A H1, Same H H1 → Ft K H1 (.ref D) (.list es) A → (∀ a ∈ A, H a = none) → Q (.ref D) H1) : ∀ D, H D = none → ∃ W : Nat → Nat → Hp → Prop, (∃ m, W 0 m (upd H D (.lst []))) ∧ ∀ i m H, W i m H →
      (J.stop i H ∧ Q (.ref D) H) ∨ (J.go i H ∧ ∃ Nx : Hp → Prop, (∀ H', Nx H' → ∃ m', m' < m ∧ W (i + 1) m' H') ∧ ∀ x H', J.yld i H x H' → gName j x (wipe σ [j]) H' fun σ2 H2 => wipe σ2 [j] = wipe σ [j] ∧ tYes σ2 H2 fun b H3 =>
        if b = true then te σ2 H3 fun y H4 => ∃ acc, H4 D = some (.lst acc) ∧ acc.length < sizeLine ∧ Nx (upd H4 D (.lst (acc ++ [y]))) else Nx H3) := by
  intro D hD
  refine lc_it w (fun i H1 => Same H H1 ∧ ∃ ys A, H1 D = some (.lst ys) ∧ FtAll K H1 ys (es.take i) A ∧ ∀ a ∈ A, H a = none ∧ a ≠ D) ⟨same_new hD, [], [], upd_same, .nil, fun _ m => nomatch m⟩ (fun i H1 _ h => hG H1 h.1) ?_ ?_
  · rintro i x H1 H2 hi ⟨s1, ys, A, e1, al, fr⟩ hx
    obtain ⟨e0, hF⟩ := hy i _ _ _ hi hx
    subst e0
    refine ⟨wipe1, ?_⟩
    refine r_yes ?_
    refine r_true (c := true) rfl ?_
    have hie : i < es.length := by omega
    have he := List.getElem?_eq_getElem hie
    refine hs i x _ D _ hi hF he s1 hD ⟨_, e1⟩ _ fun y B H3 s3 dy nB => ⟨_, s3 _ _ e1, ?_, ?_, _, A ++ B, upd_same, ?_, ?_⟩
    · rw [al.len, List.length_take]; exact small_lt (by omega)
    · intro b o e; exact kpO (s3 _ _ (s1 b o e)) (ne_of_none e hD)
    · rw [take_more he]
      have nD : ∀ a ∈ B, a ≠ D := fun a m z => by have := nB a m; rw [z, e1] at this; cases this
      have q : FtAll K (upd H3 D (.lst (ys ++ [y]))) [y] [es[i]] B := by
        have q2 : Ft K (upd H3 D (.lst (ys ++ [y]))) y es[i] B := dy.keep fun a m o e => kpO e (nD a m)
        have q3 := FtAll.cons q2 (FtAll.nil (K := K)) (fun a _ => by simp)
        rw [List.append_nil] at q3
        exact q3
      refine FtAll.app (al.keep fun a m o e => kpO (s3 _ _ e) (fr a m).2) q fun a m m2 => ?_
      obtain ⟨zs, hz⟩ := al.held a m
      rw [nB a m2] at hz; cases hz
    · intro a m
      rcases List.mem_append.mp m with m | m
      · exact fr a m
      · have h1 := nB a m
        refine ⟨?_, fun z => by rw [z, e1] at h1; cases h1⟩
        cases e : H a with
        | none => rfl
        | some o => rw [s1 a o e] at h1; cases h1
  · rintro H1 ⟨s1, ys, A, e1, al, fr⟩
    rw [List.take_of_length_le (by omega)] at al
    exact hd D (D :: A) H1 s1 (.lst e1 al fun m => (fr D m).2 rfl) fun a m => by
      rcases List.mem_cons.mp m with rfl | m
      · exact hD
      · exact (fr a m).1
theorem lcNew2 (hv : σ[i]? = some (some x)) (hx : Sk K H x xs) (es : List PyData) (hl : es.length = xs.length) (few : xs.length ≤ 1000)
    (hs : ∀ i v e D H1, i < xs.length → xs[i]? = some v → es[i]? = some e → Same H H1 → H D = none → (∃ o, H1 D = some o) → ∀ P : VK, (∀ y A H2, Same H1 H2 → Ft K H2 y e A → (∀ a ∈ A, H1 a = none) → P y H2) → te ((σ.set j none).set j (some v)) H1 P)
    (hd : ∀ D A H1, Same H H1 → Ft K H1 (.ref D) (.list es) A → (∀ a ∈ A, H a = none) → Q (.ref D) H1) : tLc (fun σ H R => iList K (tVar i) σ H R ∨ iTup K (tVar i) σ H R) (gName j) tYes te [j] σ H Q := by
  obtain ⟨a, rfl, h | h⟩ := hx
  · exact .inl ⟨_, hv, a, rfl, ⟨xs, h⟩, lcNew walk_list (fun H' s => s.seq h) yat es hl few hs hd⟩
  · exact .inr ⟨_, hv, a, rfl, ⟨xs, h⟩, lcNew walk_tup (fun H' s => Jv.Same.sqT s h) yat es hl few hs hd⟩
end
section
variable {K : PySem.W.Frag} {g : TG} {tb : TS} {D : Ends} {σ : L2.St} {H : Hp} {xs : List V} {x : V} {i : Nat}
/-- a loop over a name that holds a list or a tuple that stays -/
theorem for_sk (hv : σ[i]? = some (some x)) (hx : Sk K H x xs) (Pv : Nat → L2.St → Hp → Prop) (h0 : Pv 0 σ H) (hl : ∀ j σ' H', Pv j σ' H' → Same H H')
    (hs : ∀ j v σ' H', xs[j]? = some v → Pv j σ' H' → g v σ' H' fun σ2 H2 => tb { D with nx := Pv (j + 1), ct := Pv (j + 1), bk := D.nx } σ2 H2) (hd : ∀ σ' H', Pv xs.length σ' H' → D.nx σ' H') :
    iList K (tVar i) σ H (fun it H1 => ∃ W : Nat → Nat → L2.St → Hp → Prop, (∃ m, W 0 m σ H1) ∧ ∀ i m σ H, W i m σ H →
      (it.stop i H ∧ D.nx σ H) ∨ (it.go i H ∧ ∃ N : L2.St → Hp → Prop, (∀ σ' H', N σ' H' → ∃ m', m' < m ∧ W (i + 1) m' σ' H') ∧ ∀ x H', it.yld i H x H' → g x σ H' fun σ2 H2 => tb { D with nx := N, ct := N, bk := D.nx } σ2 H2)) ∨
    iTup K (tVar i) σ H (fun it H1 => ∃ W : Nat → Nat → L2.St → Hp → Prop, (∃ m, W 0 m σ H1) ∧ ∀ i m σ H, W i m σ H →
      (it.stop i H ∧ D.nx σ H) ∨ (it.go i H ∧ ∃ N : L2.St → Hp → Prop, (∀ σ' H', N σ' H' → ∃ m', m' < m ∧ W (i + 1) m' σ' H') ∧ ∀ x H', it.yld i H x H' → g x σ H' fun σ2 H2 => tb { D with nx := N, ct := N, bk := D.nx } σ2 H2)) := by
  obtain ⟨a, rfl, h | h⟩ := hx
  · exact .inl ⟨_, hv, a, rfl, ⟨xs, h⟩, for_list (xs := xs) Pv h0 (fun j σ' H' _ p => (hl j σ' H' p).seq h) hs hd⟩
  · exact .inr ⟨_, hv, a, rfl, ⟨xs, h⟩, for_tup (xs := xs) Pv h0 (fun j σ' H' _ p => Jv.Same.sqT (hl j σ' H' p) h) hs hd⟩
end
section
variable {K : PySem.W.Frag} {g : TG} {tb : TS} {D : Ends} {σ : L2.St} {H H0 : Hp} {xs : List V} {x : V} {i : Nat}
/-- the same with the sequence in an earlier heap -/
theorem for_sk0 (hv : σ[i]? = some (some x)) (hx : Sk K H0 x xs) (s0 : Same H0 H) (Pv : Nat → L2.St → Hp → Prop) (h0 : Pv 0 σ H) (hl : ∀ j σ' H', Pv j σ' H' → Same H0 H')
    (hs : ∀ j v σ' H', xs[j]? = some v → Pv j σ' H' → g v σ' H' fun σ2 H2 => tb { D with nx := Pv (j + 1), ct := Pv (j + 1), bk := D.nx } σ2 H2) (hd : ∀ σ' H', Pv xs.length σ' H' → D.nx σ' H') :
    iList K (tVar i) σ H (fun it H1 => ∃ W : Nat → Nat → L2.St → Hp → Prop, (∃ m, W 0 m σ H1) ∧ ∀ i m σ H, W i m σ H →
      (it.stop i H ∧ D.nx σ H) ∨ (it.go i H ∧ ∃ N : L2.St → Hp → Prop, (∀ σ' H', N σ' H' → ∃ m', m' < m ∧ W (i + 1) m' σ' H') ∧ ∀ x H', it.yld i H x H' → g x σ H' fun σ2 H2 => tb { D with nx := N, ct := N, bk := D.nx } σ2 H2)) ∨
    iTup K (tVar i) σ H (fun it H1 => ∃ W : Nat → Nat → L2.St → Hp → Prop, (∃ m, W 0 m σ H1) ∧ ∀ i m σ H, W i m σ H →
      (it.stop i H ∧ D.nx σ H) ∨ (it.go i H ∧ ∃ N : L2.St → Hp → Prop, (∀ σ' H', N σ' H' → ∃ m', m' < m ∧ W (i + 1) m' σ' H') ∧ ∀ x H', it.yld i H x H' → g x σ H' fun σ2 H2 => tb { D with nx := N, ct := N, bk := D.nx } σ2 H2)) := by
  obtain ⟨a, rfl, h | h⟩ := hx
  · exact .inl ⟨_, hv, a, rfl, ⟨xs, s0.seq h⟩, for_list (xs := xs) Pv h0 (fun j σ' H' _ p => (hl j σ' H' p).seq h) hs hd⟩
  · exact .inr ⟨_, hv, a, rfl, ⟨xs, Jv.Same.sqT s0 h⟩, for_tup (xs := xs) Pv h0 (fun j σ' H' _ p => Jv.Same.sqT (hl j σ' H' p) h) hs hd⟩
end
/-- a tree without lists needs no list -/
theorem sqT_hide {K : PySem.W.Frag} {H : Hp} {N : List Addr} (hN : ∀ b ∈ N, ∃ ys, H b = some (.lst ys)) {a : Addr} {xs : List V} (h : SqT K H a xs) : SqT K (hide N H) a xs := by
  rcases h with (h | ⟨o, h⟩) | h
  · exact .inl (.inl (hide_at (fun m => by obtain ⟨ys, e⟩ := hN a m; rw [h] at e; cases e) h))
  · exact .inl (.inr ⟨o, hide_at (fun m => by obtain ⟨ys, e⟩ := hN a m; rw [h] at e; cases e) h⟩)
  · exact .inr h
theorem DvAll.imp {K : PySem.W.Frag} {H H' : Hp} : ∀ {vs : List V} {ds : List PyData}, DvAll K H vs ds → (∀ v d, d ∈ ds → Dv K H v d → Dv K H' v d) → DvAll K H' vs ds
  | _, _, .nil, _ => .nil
  | _, _, .cons a b, f => .cons (f _ _ List.mem_cons_self a) (DvAll.imp b fun v d m => f v d (List.mem_cons_of_mem _ m))
end Jv

/-! ### repr of a container: where no text of a container is under way (guards known) -/
namespace Jv
open PySem PySem.Spec PyProof.Rows L2
/-- a def's promise where no text of a container is under way -/
structure FnG (P : Program) (w : World) (K : PySem.W.Frag) (mg : Str → Option Value) (base : Heap) (CX : CXT) (k : Nat) (f : Addr) (fd : FuncData) (ps : List Str) (sp : Sp) : Prop where
  long : ∀ vs H Q E, sp vs H Q E → vs.length = ps.length
  goes : ∀ A outer s H args us vs Q E, A.guards = some [] → Room k A →
    Env0 P w K mg base A outer s H → BindsTo s fd args (ps.zip us) → Vals vs us → sp vs H Q E →
      codeAny (model P w) A (.call (.ref f) args) (CR CX outer P w H s Q E) s
section
variable {P : Program} {w : World} {K : PySem.W.Frag} {mg : Str → Option Value} {base : Heap} {CX : CXT} {k : Nat} {f : Addr} {fd : FuncData} {ps : List Str} {sp : Sp}
theorem FnG.of (F : FnOk P w K mg base CX k f fd ps sp) : FnG P w K mg base CX k f fd ps sp := ⟨F.len, fun A o s H a us vs Q E _ => F.run A o s H a us vs Q E⟩
/-- a def whose body may ask for the text of a container -/
theorem fun_okG {x qual : Str} {st : Stmt} {N : List Str} (F : Fun K x qual st f fd) (S : FnScope N ps (defScope st)) (hl : ∀ vs H Q E, sp vs H Q E → vs.length = ps.length)
    (body : ∀ (cdv : Value) (A : Around) (outer : List Env) (s : Shared) (H : Hp) (vs : List V) (Q : VK) (E : XK), A.guards = some [] → Room k (A.deeper (envOfC qual (defScope st) s.heap.objs.size f cdv)) → sp vs H Q E →
      ∃ t, PSs (cxOf CX0 P w K mg base N qual (defScope st) f cdv A outer s H E).nox (defBody st) t ∧ t { nx := fun _ H' => Q .non H', rt := Q } (start N vs) H) : FnG P w K mg base CX0 (k + 1) f fd ps sp := by
  obtain ⟨c1, c2, c3, c4, c5, c6, c7, c8, c9, rfl, here, rec⟩ := F.ex
  refine ⟨hl, fun A outer s H args us vs Q E gd room e0 bd rv hs => ?_⟩
  have up : ∀ b o, base.get? b = some o → s.heap.get? b = some o := fun b o q => (e0.bs b o q).1
  have kin : K.In s.heap := e0.mod.kin.keeps up
  refine codeAny_call_function room.depth (kin _ _ here) rfl S.co S.gen rfl (PySem.W.codeRec_of kin rec) (bd _ _ _ _ ?_)
  refine wpAny_newFunctionEnv_cells S.kind (fun y hy => ?_) fun env he s1 inC => ?_
  · rcases S.par y.1 (List.of_mem_zip (show (y.1, y.2) ∈ _ from hy)).1 with q | q
    · exact Or.inl q
    · exact Or.inr ⟨q, PySem.W.cellsFrom_some _ _ _ (Or.inl q)⟩
  cases he
  refine ⟨(e0.mod.nolimit.keeps up).keeps inC.toInCall.keep, codeAny_func ?_⟩
  obtain ⟨t, pt, q⟩ := body c7 A outer s H vs Q E gd (room.deeper _) hs
  refine wpAny_mono (pt.nox.run [] s1 _ H _ (inv_start S room.hd e0 (hl _ _ _ _ hs) rv inC) q) (fun fl s' z => ?_) fun _ _ z => z
  have done : ∀ (σ' : L2.St) (H' : Hp) (v : V) (u : Value), Inv (cxOf CX0 P w K mg base N qual (defScope st) f c7 A outer s H E) [] σ' H' s' → RelV v u → Q v H' → CE outer P w H s Q u s' :=
    fun σ' H' v u J r q => ⟨v, H', J.os, J.bare, J.base, J.hok, r, q⟩
  cases fl
  case ret u => exact let ⟨v, σ', H', J, r, q⟩ := z; done σ' H' v u J r q
  case next => exact let ⟨σ', H', J, q⟩ := z; done σ' H' .non .none J rfl q
  case brk => exact let ⟨_, _, _, q⟩ := z; (q : False).elim
  case cont => exact let ⟨_, _, _, q⟩ := z; (q : False).elim
end
/-! ### the text of a container -/
def rRepr (K : PySem.W.Frag) : List V → Hp → VK → Prop := fun xs H Q => ∃ a d, xs = [.ref a] ∧ Dp K H (.ref a) d ∧ d.canLay0 = true ∧ d.depth ≤ 60 ∧ d.showable = true ∧ d.shown.length ≤ sizeLine ∧ Q (.str d.shown) H
theorem call_repr {X : Cx} (hg : X.A.guards = some []) (hu : X.A.units + 64 < cLine) : CallR X (.builtin "repr") (rRepr X.K) := by
  intro pins s σ H xs us Q I r h
  obtain ⟨a, d, rfl, dp, c1, c2, c3, c4, q⟩ := h
  obtain ⟨u, rfl, ru⟩ := r.one
  cases (show u = Value.ref a from ru)
  obtain ⟨as, rd⟩ := Dp.reads I d (.ref a) (.ref a) dp rfl
  refine repr_of_reads' rd c3 (fun z => by rw [PyData.hasDict_of_canLay d c1] at z; cases z) hg (by omega) (fun _ _ e => e) (fun h' u tk k => ?_) c4
  exact ⟨.str d.shown, H, I.kept (t' := tk) k, ⟨_, rfl⟩, q⟩
theorem gd_body {CX : CXT} {P : Program} {w : World} {K : PySem.W.Frag} {mg : Str → Option Value} {base : Heap} {N : List Str} {qual : Str} {scope : Scope} {f : Addr} {cd : Value} {A : Around} {outer : List Env} {s : Shared} {H : Hp} {E : XK} (h : A.guards = some []) :
    (cxOf CX P w K mg base N qual scope f cd A outer s H E).nox.A.guards = some [] := h
/-! ### the end of a law whose def asks for the text of a container -/
section
variable {P : Program} {w : World} {K : PySem.W.Frag} {mg mb : Str → Option Value} {CX : CXT} {k : Nat} {fa a : Addr} {fd : FuncData} {x : Str} {sp : Sp} {z : Shared} {vs : List Value} {ns : List Int}
theorem lawG (kin : K.In z.heap) (gl : z.heap.Ns mainGlobals mg) (bi : z.heap.Ns builtinsNs mb) (bb : ∀ y : Str, y ≠ "__name__" → mb y = bootBuiltins y) (nl : z.heap.NoLimit) (gn : z.gens = #[])
    (ea : z.heap.get? a = some { cls := .type "list", data := .seq vs.toArray }) (hi : IntsAre vs ns) (few : ns.length ≤ sizeLine) (room : Room k callerA)
    (F : ∀ base : Heap, K.In base → base.Ns mainGlobals mg → FnG P w K mg base CX k fa fd [x] sp) (bd : ∀ (s : Shared) (u : Value), BindsTo s fd ⟨[u], []⟩ [(x, u)])
    (says : ∀ H : Hp, Only H → SqL K H a (ns.map V.int) → sp [.ref a] H (fun v _ => v = .bl true) fun _ _ _ => False) (quiet : ∀ H e s', CX [] H z (fun _ _ _ => False) e s' → False) :
    codeAny (model P w) callerA (.call (.ref fa) ⟨[.ref a], []⟩) (fun r s' => r = .ok (.ret (.bool true)) ∧ OldK z.heap s'.heap ∧ s'.os = z.os ∧ AllBare s'.gens) z := by
  -- H tracks the script at most, and that only where it is none of the module's objects
  have main : ∀ H : Hp, Only H → (∀ b, ¬ H b = none → b = a ∧ K.lookup a = none) → SqL K H a (ns.map V.int) → HOk P w H z.heap →
      codeAny (model P w) callerA (.call (.ref fa) ⟨[.ref a], []⟩) (fun r s' => r = .ok (.ret (.bool true)) ∧ OldK z.heap s'.heap ∧ s'.os = z.os ∧ AllBare s'.gens) z := fun H only tr sq ok => by
    have dictOff : ∀ {b : Addr} {o : Obj} {es : Array DictEntry} {n : Nat}, z.heap.get? b = some o → o.data = .dict es n → H b = none := fun {b o es n} e d =>
      Classical.byContradiction fun t => by
        obtain ⟨rfl, _⟩ := tr b t
        rw [ea] at e
        cases e
        exact nomatch (show Data.seq vs.toArray _ = Data.dict es n from d)
    have spaces : ∀ {b : Addr} {m : Str → Option Value}, z.heap.Ns b m → (hidT z.heap H).Ns b m := fun q => by
      obtain ⟨o, es, n, e, d, r⟩ := q
      exact ⟨o, es, n, hidT_get e (dictOff e d), d, r⟩
    have own : K.In (hidT z.heap H) := fun b o q => hidT_get (kin b o q) (Classical.byContradiction fun t => by
      obtain ⟨rfl, n⟩ := tr b t
      rw [n] at q
      cases q)
    obtain ⟨ml, l1, l2⟩ := nl
    have start : Env0 P w K mg (hidT z.heap H) callerA [] z H :=
      { frames := rfl, mod := ⟨own, spaces gl, ⟨mb, spaces bi, bb⟩, ml, spaces l1, l2⟩, bs := fun _ _ q => of_hidT q, bsz := Nat.le_of_eq (hidT_size _ _), funs := trivial,
        frf := fun b q => (List.not_mem_nil q).elim, hok := ok, bare := .of_eq gn }
    refine codeAny_mono ((F _ own (spaces gl)).goes callerA [] z H ⟨[.ref a], []⟩ [.ref a] [.ref a] _ _ rfl room start (bd z (.ref a)) (.cons rfl .nil) (says H only sq)) fun r s' q => ?_
    match r, q with
    | .error e, q => exact (quiet H e s' q).elim
    | .ok .next, q => exact False.elim q
    | .ok .brk, q => exact False.elim q
    | .ok .cont, q => exact False.elim q
    | .ok (.ret u), q =>
      obtain ⟨v, H', os, bare, un, ok', rv, (rfl : v = .bl true)⟩ := q
      obtain rfl : u = Value.bool true := rv
      refine ⟨rfl, OldK.of_keep fun b o e => ?_, os, bare⟩
      rcases only b with n | ⟨ob, xs, t⟩
      · exact un.keep b o e n (fun m => (List.not_mem_nil m).elim) List.not_mem_nil
      · obtain ⟨h1, _⟩ := ok b _ t
        obtain ⟨h2, _⟩ := ok' b _ (un.frzs b ob _ t)
        rw [e] at h1
        cases h1
        exact h2
  have rv := vals_ints hi
  have nv := hi.length
  by_cases hk : K.lookup a = none
  · obtain ⟨S, hS⟩ : ∃ S : Hp, S = fun b => if b = a then some (HO.frz { cls := .type "list", data := .seq vs.toArray } (.lst (ns.map V.int))) else none := ⟨_, rfl⟩
    have seen : S a = some (.frz { cls := .type "list", data := .seq vs.toArray } (.lst (ns.map V.int))) := by rw [hS]; exact if_pos rfl
    have other : ∀ b, b ≠ a → S b = none := fun b e => by rw [hS]; exact if_neg e
    clear hS
    refine main S (fun b => ?_) (fun b t => ?_) (.inl (.inr ⟨_, seen⟩)) (fun b u t => ?_)
    · by_cases e : b = a
      · exact .inr ⟨_, _, by rw [e]; exact seen⟩
      · exact .inl (other b e)
    · exact ⟨Classical.byContradiction fun e => t (other b e), hk⟩
    · by_cases e : b = a
      · subst e
        rw [seen] at t
        cases t
        exact ⟨ea, by rw [List.length_map]; exact few, vs, _, rv, ea⟩
      · exact nomatch (other b e).symm.trans t
  · obtain ⟨o, q⟩ := Option.ne_none_iff_exists'.mp hk
    have e := kin a o q
    rw [ea] at e
    cases e
    exact main (fun _ => none) (fun _ => .inl rfl) (fun _ t => (t rfl).elim) (.inr ⟨_, vs.toArray, _, q, rfl, rfl, rfl, by rw [List.size_toArray, nv]; exact few, by simpa using rv⟩) fun _ _ t => nomatch (show (none : Option HO) = some _ from t)
end
theorem walkG {l : PySem.W.OpenLaw} {n k : Nat} {q : Program} {loose : List Str} {XP : (Str → Option Value) → Heap → Prop} {YP : World → Heap → Prop} {d : DefRec} {K : Params → PySem.W.Frag} {sp : World → Sp} {x : Str}
    (h1 : l.most = some n) (h2 : n ≤ sizeLine) (h3 : d.params.defaults = []) (h4 : Room k callerA) (h5 : ∀ (w : World) (h : Heap), YP w h → (K w.params).In h)
    (F : ∀ (w : World) (mg : Str → Option Value) (fa : Addr) (h : Heap), (K w.params).In h → h.Ns mainGlobals mg → mg d.name = some (.ref fa) → ∃ fd : FuncData, (∀ (s : Shared) (u : Value), BindsTo s fd ⟨[u], []⟩ [(x, u)]) ∧
      ∀ base : Heap, (K w.params).In base → base.Ns mainGlobals mg → FnG l.prog w (K w.params) mg base CX0 k fa fd [x] (sp w))
    (says : ∀ (w : World) (H : Hp) (a : Addr) (ns : List Int), ns.length ≤ n → Only H → SqL (K w.params) H a (ns.map V.int) → sp w [.ref a] H (fun v _ => v = .bl true) fun _ _ _ => False)
    (quiet : ∀ (w : World) (H : Hp) (s : Shared) (e : Value) (s' : Shared), CX0 [] H s (fun _ _ _ => False) e s' → False) :
    PySem.W.WalkO q loose XP YP l.row.toRowW d [] (fun f vs => PySem.call f vs) :=
  Att.attach_call h1 h3 fun w s₀ s₁ mg mb fa o pm cd doc a vs ns G Y ho hd hcd hmg hobj hints hlen hg => by
    obtain ⟨fd, bd, hF⟩ := F w mg fa _ (h5 w _ Y) G.T.g hmg
    exact lawG (h5 w _ Y) G.T.g G.T.b G.T.builtins G.T.nolimit hg hobj hints (Nat.le_trans hlen h2) h4 hF bd (fun H only sq => says w H a ns hlen only sq) fun H e s' => quiet w H s₁ e s'
end Jv

/-! ### enumerate of a tuple -/
namespace Jv
open PySem PySem.Spec PyProof.Rows L2
open PySem.Sem (wp)
/-- the cell that enumerate lays over an iterator -/
def enCell (it : Addr) : Obj := { cls := .type "enumerate", data := .fields #[.none, .bool false, .ref it, rawInt 0, .none, .none] }
set_option maxHeartbeats 1000000 in
theorem meets_en {v : Value} {o : Obj} {G : Heap → Prop} (B : Begins v o G) :
    Meets (Builtin.«enumerate.__new__» ⟨[.type "enumerate", v], []⟩) (fun _ R s => G s.heap ∧ R (.ok (.ret (.ref (s.heap.push o).objs.size))) { s with heap := (s.heap.push o).push (enCell s.heap.objs.size) }) := by
  refine .of_wp fun prog w A R s h => ?_
  obtain ⟨hp, gg, dd, tk, os⟩ := s
  obtain ⟨hG, h⟩ := h
  have h0 := sub_enumerate
  have walks : ∀ {A' : Around} {E : Value → Shared → Prop} {Q : Value → Shared → Prop}, Q (.ref hp.objs.size) ⟨hp.push o, gg, dd, tk, os⟩ → wpAny (model prog w) A' (pyIter v) Q E ⟨hp, gg, dd, tk, os⟩ :=
    fun {A' E Q} z => B.iter prog w A' E ⟨hp, gg, dd, tk, os⟩ Q hG z
  wp_walk using walks
  refine wpAny_stack_any fun st => wpAny_pure ?_
  split
  · rename_i c _ _ _ _ _
    by_cases hc : (c == Value.type "enumerate") = true
    · simp only [hc]
      wp_walk using walks
      exact ⟨_, rfl, h⟩
    · simp only [hc]
      wp_walk using walks
      exact ⟨_, rfl, h⟩
  · wp_walk using walks
    exact ⟨_, rfl, h⟩
section
variable {prog : Program} {w : World} {A : Around} {E : Value → Shared → Prop} {s : Shared}
theorem call_en {v : Value} {o : Obj} {G : Heap → Prop} {Q : Value → Shared → Prop} (B : Begins v o G) (hG : G s.heap)
    (h : ∀ g, IsEnum g (s.heap.objs.size + 1) s.heap.objs.size 0 .none → g.get? s.heap.objs.size = some o → (∀ b u, s.heap.get? b = some u → g.get? b = some u) → Q (.ref (s.heap.objs.size + 1)) { s with heap := g }) :
    wpAny (model prog w) A (call (.type "enumerate") [v]) Q E s := by
  have sz : (s.heap.push o).objs.size = s.heap.objs.size + 1 := Heap.size_push ..
  have at1 : IsEnum ((s.heap.push o).push (enCell s.heap.objs.size)) (s.heap.objs.size + 1) s.heap.objs.size 0 .none := by
    have q := Heap.get?_push_size (s.heap.push o) (o := enCell s.heap.objs.size) rfl
    rw [sz] at q; exact q
  refine callType_new F.called_enumerate (by decide) (F.typeCall_enumerate_1 _) (F.newCall_enumerate_1 _) (fun obj => F.args_object_init_2 obj _) F.entry_enumerate_new (meets_en B) ⟨hG, ?_⟩
  show _ ∧ _
  rw [sz]
  exact ⟨⟨_, at1, rfl⟩, h _ at1 (Heap.get?_push_of_some _ (Heap.get?_push_size _ B.free)) fun b u x => Heap.get?_push_of_some _ (Heap.get?_push_of_some _ x)⟩
end
/-- the tuple at a, each item in a new pair behind its place -/
def Iet (K : PySem.W.Frag) (a : Addr) : It :=
  ⟨fun i H => ∃ (xs : List V) (x : V), SqT K H a xs ∧ xs[i]? = some x, fun i H v H' => ∃ T x, v = .ref T ∧ H T = none ∧ H' = upd H T (.tup [.int (i : Nat), x]) ∧ ∀ xs, SqT K H a xs → xs[i]? = some x, fun i H => ∃ xs : List V, SqT K H a xs ∧ xs.length = i⟩
theorem apart_it {h : Heap} {it a : Addr} {i : Nat} {vs : Array Value} (t : h.IsTupleIter it a i) (p : h.IsTuple a vs) : a ≠ it := fun e => by
  obtain ⟨o, ho, hc, _⟩ := t
  obtain ⟨o2, ho2, hc2, _⟩ := p
  rw [e, ho] at ho2
  cases ho2
  rw [hc] at hc2
  exact absurd (PySem.Value.type.inj hc2) (by decide)
theorem apart_en {h : Heap} {e it a : Addr} {j : Int} {old : Value} {vs : Array Value} (t : IsEnum h e it j old) (p : h.IsTuple a vs) : e ≠ a := fun x => by
  obtain ⟨o2, ho2, hc2, _⟩ := p
  rw [← x, t] at ho2
  cases ho2
  exact absurd (PySem.Value.type.inj hc2) (by decide)
theorem turn_enT {P : Program} {w : World} {K : PySem.W.Frag} {elts : List Expr} {kk : Nat} {tpos : Pos} (a e it : Addr) :
    Turn P w K (.Tuple elts kk tpos) (Iet K a) [e, it] e (fun i h => (∃ old, IsEnum h e it ((i : Nat) : Int) old) ∧ h.IsTupleIter it a i ∧ e ≠ it) where
  mem := List.mem_cons_self
  obj := fun i h st b hb => by
    obtain ⟨⟨old, he⟩, ⟨o, ho, hc, hd⟩, _⟩ := st
    rcases List.mem_cons.mp hb with rfl | hb
    · exact ⟨_, he, fun v q => nomatch q⟩
    · rw [List.mem_singleton.mp hb]
      exact ⟨o, ho, fun v q => by rw [hd] at q; cases q⟩
  keep := fun i h h' st k => by
    obtain ⟨⟨old, he⟩, hi, hne⟩ := st
    exact ⟨⟨old, k e List.mem_cons_self _ he⟩, hi.at fun o q => k it (List.mem_cons_of_mem _ (List.mem_singleton.mpr rfl)) o q, hne⟩
  item := by
    intro X hP hw hK hc i pins s σ H E I hf st hg
    subst hP hw hK
    obtain ⟨⟨old, he⟩, hit, hne⟩ := st
    obtain ⟨xs, x, hq, hx⟩ := hg
    obtain ⟨its, rv, p, hz⟩ := I.tuple hq
    obtain ⟨u, hu, ru⟩ := rv.get hx
    have le : e < s.heap.objs.size := Heap.lt_size he
    have li : it < s.heap.objs.size := by obtain ⟨_, q, _⟩ := hit; exact Heap.lt_size q
    have ea := apart_en he p
    have lt : i < its.toArray.size := by
      rw [List.size_toArray]
      exact (List.getElem?_eq_some_iff.mp hu).1
    refine wpAny_pyNext_enum_itemD (Draws.tuple (A := X.A.in1) (I.ok.hd hc) it a (apart_it hit p) its.toArray) he ⟨hit, p⟩ lt hne (fun m => ?_) fun x' h' tk hP ho hst' hT hsz hk => ?_
    · rcases List.mem_cons.mp m with m | m
      · exact hne m
      · exact ea (List.mem_singleton.mp m)
    obtain rfl : x' = u := by
      have : its.toArray[i]? = some u := by simpa using hu
      rw [this] at hP; exact (Option.some.inj hP).symm
    refine ⟨_, rfl, wpAny_letOwnedTupleGo_enum (s := { s with heap := h', toks := tk + 1 }) ho fun h'' he' sb => ?_⟩
    have hT2 : h''.get? s.heap.objs.size = some { cls := .type "tuple", data := .seq #[.int i tk, x'] } := (sb.2 _ (Nat.ne_of_gt le)).trans hT
    have new : ObjOk X.prog X.w (upd H s.heap.objs.size (.tup [.int (i : Nat), x])) h'' s.heap.objs.size (.tup [.int (i : Nat), x]) :=
      ⟨by show 2 ≤ sizeLine; decide, [.int i tk, x'], .cons ⟨_, rfl⟩ (.cons ru .nil), ⟨_, hT2, rfl, _, rfl⟩⟩
    have I1 : Inv X pins σ (upd H s.heap.objs.size (.tup [.int (i : Nat), x])) { s with heap := h'', toks := tk + 1 } :=
      I.turnedNew (ch := [e, it]) (fun b ob hb q => (sb.2 b (fun z => hb (by simp [z]))).trans (hk b ob (fun z => hb (by simp [z])) (fun z => hb (by simp [z])) q)) hf (Nat.le_refl _) new
    refine ⟨.ref s.heap.objs.size, _, I1, rfl, ⟨_, x, rfl, I.hok.fresh (Nat.le_refl _), rfl, fun ys hy => by rw [I.tuple_inj hy hq]; exact hx⟩, ⟨⟨x', ?_⟩, hst'.1.at fun o q => (sb.2 it (Ne.symm hne)).trans q, hne⟩, fun b hb => ?_⟩
    · have e1 : ((i + 1 : Nat) : Int) = (i : Int) + 1 := by omega
      rw [e1]; exact he'
    · have lb : b < s.heap.objs.size := by
        rcases List.mem_cons.mp hb with z | z
        · rw [z]; exact le
        · rw [List.mem_singleton.mp z]; exact li
      rw [upd_ne (Nat.ne_of_lt lb)]
      exact (hf b hb).1
  done := by
    intro X hP hw hK hc i pins s σ H E I hf st hg
    subst hP hw hK
    obtain ⟨⟨old, he⟩, hit, hne⟩ := st
    obtain ⟨xs, hq, hx⟩ := hg
    obtain ⟨its, rv, p, hz⟩ := I.tuple hq
    obtain ⟨f0, f1, f2, f3, f4, f5⟩ := hf it (List.mem_cons_of_mem _ (List.mem_singleton.mpr rfl))
    have hl : i = its.toArray.size := by rw [List.size_toArray, ← rv.length]; exact hx.symm
    subst hl
    exact wpAny_pyNext_enum_endD (Draws.tuple (A := X.A.in1) (I.ok.hd hc) it a (apart_it hit p) its.toArray) he ⟨hit, p⟩ fun h' eb => ⟨rfl, I.turned (t' := s.toks) (fun b o hb q => eb b o hb q) f0 f1 f3 f4 f5⟩
  self := fun A i s Q E st h => let ⟨⟨_, he⟩, _⟩ := st; wpAny_pyIter_enum he h
def iEnT (K : PySem.W.Frag) (ta : TA) : TI := fun σ H R => ta σ H fun vs H1 => ∃ a xs, vs = [.ref a] ∧ SqT K H1 a xs ∧ R (Iet K a) H1
theorem pi_enT {X : Cx} {e : Expr} {ta : TA} {p pos tpos : Pos} {elts : List Expr} {kk : Nat} (hg : Gl X "enumerate") (hm : X.mg "enumerate" = none) (ha : PA X [e] ta) (hs : starEach [e] X.env = [(false, eval e X.env)] := by rfl) :
    PI X (.Tuple elts kk tpos) (.Call (.Name "enumerate" p) [e] [] pos) (iEnT X.K ta) := by
  refine ⟨fun pins s σ H R I h => ?_⟩
  refine Call_ (ld_blt I hg hm boot_enumerate (PyProof.Rows.callWith_type1 (thn (ha.run pos pins s σ H _ I h) fun us s1 ⟨vs, H1, I1, r1, q1⟩ => ?_) hs rfl))
  obtain ⟨a, xs, rfl, hq, q⟩ := q1
  cases r1 with
  | cons r rr =>
    cases rr
    cases r
    obtain ⟨its, rv, p', hz⟩ := I1.tuple hq
    refine call_en (begins_tuple a its.toArray) p' fun g he hit hk => wpAny_pyIter_enum he ?_
    have I2 : Inv X pins σ H1 { s1 with heap := g } := I1.kept (t' := s1.toks) hk
    refine ⟨s1.heap.objs.size + 1, [s1.heap.objs.size + 1, s1.heap.objs.size], _, _, H1, rfl, I2, turn_enT a (s1.heap.objs.size + 1) s1.heap.objs.size, ⟨⟨.none, he⟩, ⟨_, hit, rfl, rfl⟩, Nat.succ_ne_self _⟩, fun b hb => ?_, q⟩
    have hle : s1.heap.objs.size ≤ b := by
      rcases List.mem_cons.mp hb with z | z
      · rw [z]; exact Nat.le_add_right _ _
      · rw [List.mem_singleton.mp z]; exact Nat.le_refl _
    exact I1.fpOk hle (I1.hok.fresh hle)
section
variable {K : PySem.W.Frag} {a : Addr} {xs : List V} {x : V} {σ : L2.St} {H : Hp} {ta : TA} {i : Nat}
theorem r_iEt {P : It → Hp → Prop} (h : ta σ H fun vs H1 => ∃ b ys, vs = [.ref b] ∧ SqT K H1 b ys ∧ P (Iet K b) H1) : iEnT K ta σ H P := h
theorem walk_enT : Walk (Iet K a) xs.length (fun H => SqT K H a xs) (YPair (fun i => some (.int (i : Nat))) (fun i => xs[i]?)) := by
  refine ⟨fun i _ hi q => ⟨xs, xs[i], q, by simp [hi]⟩, fun _ q => ⟨xs, q, rfl⟩, fun i H v H' _ q y => ?_⟩
  obtain ⟨T, x, h1, h2, h3, h4⟩ := y
  exact ⟨T, .int (i : Nat), x, h1, h2, h3, rfl, h4 xs q⟩
/-- a loop over enumerate of a name that holds a list or a tuple that stays -/
theorem for_en {g : TG} {tb : TS} {D : Ends} {H0 : Hp} (hv : σ[i]? = some (some x)) (hx : Sk K H0 x xs) (s0 : Same H0 H) (Pv : Nat → L2.St → Hp → Prop) (h0 : Pv 0 σ H) (hl : ∀ j σ' H', Pv j σ' H' → Same H0 H')
    (hs : ∀ j v T σ' H', xs[j]? = some v → H' T = none → Pv j σ' H' → g (.ref T) σ' (upd H' T (.tup [.int (j : Nat), v])) fun σ2 H2 => tb { D with nx := Pv (j + 1), ct := Pv (j + 1), bk := D.nx } σ2 H2) (hd : ∀ σ' H', Pv xs.length σ' H' → D.nx σ' H') :
    iEnum K (tCons (tVar i) tNil) σ H (fun it H1 => ∃ W : Nat → Nat → L2.St → Hp → Prop, (∃ m, W 0 m σ H1) ∧ ∀ i m σ H, W i m σ H →
      (it.stop i H ∧ D.nx σ H) ∨ (it.go i H ∧ ∃ N : L2.St → Hp → Prop, (∀ σ' H', N σ' H' → ∃ m', m' < m ∧ W (i + 1) m' σ' H') ∧ ∀ x H', it.yld i H x H' → g x σ H' fun σ2 H2 => tb { D with nx := N, ct := N, bk := D.nx } σ2 H2)) ∨
    iEnT K (tCons (tVar i) tNil) σ H (fun it H1 => ∃ W : Nat → Nat → L2.St → Hp → Prop, (∃ m, W 0 m σ H1) ∧ ∀ i m σ H, W i m σ H →
      (it.stop i H ∧ D.nx σ H) ∨ (it.go i H ∧ ∃ N : L2.St → Hp → Prop, (∀ σ' H', N σ' H' → ∃ m', m' < m ∧ W (i + 1) m' σ' H') ∧ ∀ x H', it.yld i H x H' → g x σ H' fun σ2 H2 => tb { D with nx := N, ct := N, bk := D.nx } σ2 H2)) := by
  have go : ∀ j v σ1 H1 H2, j < xs.length → Pv j σ1 H1 → YPair (fun i => some (.int (i : Nat))) (fun i => xs[i]?) j H1 v H2 → g v σ1 H2 fun σ2 H2 => tb { D with nx := Pv (j + 1), ct := Pv (j + 1), bk := D.nx } σ2 H2 := by
    rintro j v σ1 H1 H2 _ p ⟨T, y, z, rfl, hT, rfl, e1, e2⟩
    cases e1
    exact hs j z T σ1 H1 e2 hT p
  obtain ⟨a, rfl, h | h⟩ := hx
  · exact .inl ⟨_, hv, a, xs, rfl, s0.seq h, for_it walk_enum Pv h0 (fun j σ' H' _ p => (hl j σ' H' p).seq h) go hd⟩
  · exact .inr ⟨_, hv, a, xs, rfl, Jv.Same.sqT s0 h, for_it walk_enT Pv h0 (fun j σ' H' _ p => Jv.Same.sqT (hl j σ' H' p) h) go hd⟩
end
end Jv

/-! ### isinstance of an exception that an except clause has caught -/
namespace Jv
open PySem PySem.Spec PyProof.Rows L2
structure XiC (K : PySem.W.Frag) (C : Addr) : Prop where
  cl : (PySem.W.clsIn K C).isSome = true
  ga : PySem.W.findIn K (.ref C) "__getattribute__" = some (some (.builtin "BaseException.__getattribute__"))
  gg : PySem.W.findIn K (.ref C) "__getattr__" = some none
  ex : PySem.W.subIn K (.ref C) (.type "BaseException") = some true
  ca : PySem.W.findIn K (.ref C) "__class__" = some (some (.builtin "object.__class__"))
  sp : PySem.W.specialIn K (.builtin "object.__class__") "__get__" = some (some (.builtin "getset_descriptor.__get__"))
  tk : PySem.W.takesIn K (.builtin "object.__class__") = some true
  mr : PySem.W.mroIn K C (.type "object") = some true
/-- isinstance(e, c): a the caught one, of an own class C, that has no fields -/
def rIsX (K : PySem.W.Frag) (a : Addr) (cls : Value) (d : Option Addr) : List V → Hp → VK → Prop := fun xs H Q => ∃ (C : Addr) (c : V) (u : Value) (b : Bool), cls = .ref C ∧ d = none ∧ XiC K C ∧ xs = [.ref a, c] ∧ ClsV c u ∧ PySem.W.kitOne K (.ref C) u = some b ∧ Q (.bl b) H
theorem call_isX {X : Cx} {a : Addr} {cls : Value} {d : Option Addr} {oe : Obj} {pn : List (Addr × Obj)} (hz : Zc cls d oe) (hf : ∃ vs, oe.data = .fields vs) : CallR (X.suite a ((a, oe) :: pn)) (.builtin "isinstance") (rIsX X.K a cls d) := by
  intro pins s σ H xs us Q I r h
  obtain ⟨C, c, u, b, rfl, rfl, T, rfl, k, e, q⟩ := h
  obtain ⟨u1, u2, rfl, r1, r2⟩ := vals2 r
  have e2 := k.eq r2
  subst e2
  obtain rfl : u1 = Value.ref a := r1
  obtain ⟨ha, _⟩ := I.pin (a, oe) (List.mem_append_left _ List.mem_cons_self)
  obtain ⟨vs, hd⟩ := hf
  have J : PySem.W.InstAt s.heap a oe C none := ⟨ha, hz.1, by unfold PySem.W.notCls; rw [hd] <;> rfl, by rw [hz.2]; trivial⟩
  exact PySem.W.kia_one (PySem.W.kitx_exc T.cl T.ga T.gg T.ex T.ca T.sp T.tk T.mr) I.kIn J e (fun z => nomatch z) fun tk => ⟨.bl b, H, I.tok tk, rfl, q⟩
theorem takes_len {X : Cx} {W : WX} (t : Takes X W) : Takes X (fun cls d σ H => σ.length = X.N.length → W cls d σ H) := fun u s' ⟨a, B, sI, pins, σ, H, cls, d, e, I, nb, up, sky, na, os, ag, w⟩ =>
  t u s' ⟨a, B, sI, pins, σ, H, cls, d, e, I, nb, up, sky, na, os, ag, w I.len⟩
/-- a call whose wish of raises is chosen at the call -/
theorem pe_exL {X : Cx} {e : Expr} {W : WX} {t : XK → TE} {n : Nat} (hn : X.N.length = n) (tk : Takes X W) (h : ∀ (E : XK) (W' : WX), Takes X W' → (∀ cls d σ' H', E cls d H' → W' cls d σ' H') → PE X e (t E)) :
    PE X e (fun σ H Q => ∃ E : XK, (∀ cls d σ' H', E cls d H' → σ'.length = n → W cls d σ' H') ∧ t E σ H Q) := by
  subst hn
  exact ⟨fun pins s σ H Q I hh => by
    obtain ⟨E, hW, q⟩ := hh
    exact (h E _ (takes_len tk) hW).run pins s σ H Q I q⟩
theorem slots3 {σ : L2.St} (h : σ.length = 3) : ∃ x y z, σ = [x, y, z] := by
  match σ, h with
  | [x, y, z], _ => exact ⟨x, y, z, rfl⟩
end Jv

/-! ### max(x, default=d) of a list or a tuple of whole numbers -/
namespace JvM
open PySem PySem.Spec PyProof.Rows
section
variable {prog : Program} {w : World} {A : Around} {E : Value → Shared → Prop} {I S : Addr} {fp wr : List Addr} {G : Array GenState → Array GenState → Prop} {n : Nat} {val : Nat → Int} {St : Nat → Shared → Prop} {d : Value} {R : Result → Shared → Prop}
abbrev isV (val : Nat → Int) : Nat → Value → Prop := fun i v => ∃ t, v = .int (val i) t
abbrev bestO (xs : Array Value) (c : Nat) : Obj := { cls := .type "list", dict := none, data := .seq xs c, slots := #[] }
abbrev maxLp (I S : Addr) (d : Value) : Code := .builtin "max.loop" ⟨[.ref I, .none, .ref S], [(Str.ofString "default", d)]⟩
/-- the best so far is that of place m -/
theorem maxd_go (W : WalksS prog w A.in1 I fp wr G n (isV val) St) (out : S ∉ fp) : ∀ (k j m : Nat) (s : Shared) (b : Value) (c : Nat), j + k = n → m < j → (∀ i, i < j → val i ≤ val m) → isV val m b → St j s → s.heap.get? S = some (bestO #[b, b] c) →
    (∀ m' v z, m' < n → (∀ i, i < n → val i ≤ val m') → isV val m' v → Moved (S :: wr) G s z → R (.ok (.ret v)) z) → codeAny (model prog w) A (maxLp I S d) R s := by
  have outW : S ∉ wr := fun h => out (W.sub _ h)
  have wider : ∀ b ∈ wr, b ∈ S :: wr := fun b hb => List.mem_cons_of_mem _ hb
  have apart : ∀ {b : Addr}, b ∉ S :: wr → S ≠ b := fun hb h => hb (h ▸ List.mem_cons_self)
  have nm : (toString "max" ++ toString ".loop" : String) = "max.loop" := by decide
  intro k
  induction k with
  | zero =>
    intro j m s b c hj hm hb hv hst hS hR
    obtain rfl : j = n := by omega
    refine codeAny_builtin F.entry_max_loop ?_
    rw [Around.under_plainId F.plain_max_loop _]
    refine wpAny_bind (wpAny_seqItems hS rfl (wpAny_bind (wpAny_tryCatch (W.done s _ _ hst fun s' mv => ?_))))
    have hS' := mv.heap S _ outW hS
    refine wpAny_bind ?_
    refine wpAny_updateSeq hS' rfl (wpAny_bind (wpAny_letGo (wpAny_pure ?_)))
    exact hR m b _ hm hb hv ((mv.mono wider).then_heap (tk := s'.toks) (Nat.le_refl _) fun x o hx e => (Heap.get?_update_other _ _ (apart hx)).trans e)
  | succ k ih =>
    intro j m s b c hj hm hb hv hst hS hR
    refine codeAny_builtin F.entry_max_loop ?_
    rw [Around.under_plainId F.plain_max_loop _]
    refine wpAny_bind (wpAny_seqItems hS rfl (wpAny_bind (wpAny_tryCatch (W.item j s _ _ (by omega) hst fun v s' hP hst' mv => ?_))))
    have hS' := mv.heap S _ outW hS
    refine wpAny_bind (wpAny_pure ?_)
    refine wpAny_bind (wpAny_tryCatch (wpAny_holding (wpAny_bind (CmpOf.ints_gt val (fun _ _ h => h) j m v b _ _ _ hP hv ?_))))
    refine wpAny_bind (wpAny_holding (wpAny_truthy_bool (wpAny_bind (wpAny_letGo (wpAny_pure ?_)))))
    dsimp only
    by_cases c0 : val j > val m
    · rw [decide_eq_true c0, if_pos rfl]
      refine wpAny_bind ?_
      refine wpAny_updateSeq hS' rfl (wpAny_bind (wpAny_letGo ?_))
      rw [nm]
      refine wpAny_pure ⟨plainId_quiet F.plain_max_loop _, ih (j + 1) j _ v _ (by omega) (by omega) (fun i hi => ?_) hP (W.frame _ s' _ s'.toks hst' (Nat.le_refl _) fun x hx o e => ?_) (Heap.get?_update_self _ hS' rfl) fun m' u z h1 h2 h3 h4 => ?_⟩
      · by_cases e : i = j
        · rw [e]; exact Int.le_refl _
        · have := hb i (by omega); omega
      · exact (Heap.get?_update_other _ _ (fun h : S = x => out (h ▸ hx))).trans e
      · exact hR m' u z h1 h2 h3 (Moved.trans W.gtrans ((mv.mono wider).then_heap (Nat.le_refl _) fun x o hx e => (Heap.get?_update_other _ _ (apart hx)).trans e) h4)
    · rw [decide_eq_false c0, if_neg Bool.false_ne_true]
      refine wpAny_bind (wpAny_letGo ?_)
      rw [nm]
      refine wpAny_pure ⟨plainId_quiet F.plain_max_loop _, ih (j + 1) m _ b c (by omega) (by omega) (fun i hi => ?_) hv hst' hS' fun m' u z h1 h2 h3 h4 => hR m' u z h1 h2 h3 (Moved.trans W.gtrans (mv.mono wider) h4)⟩
      by_cases e : i = j
      · rw [e]; omega
      · exact hb i (by omega)
/-- from the start -/
theorem maxd_all (W : WalksS prog w A.in1 I fp wr G n (isV val) St) (out : S ∉ fp) {s : Shared} {c : Nat} (hst : St 0 s) (hS : s.heap.get? S = some (bestO #[] c))
    (h0 : n = 0 → ∀ z, Moved (S :: wr) G s z → R (.ok (.ret d)) z) (hR : ∀ m v z, m < n → (∀ i, i < n → val i ≤ val m) → isV val m v → Moved (S :: wr) G s z → R (.ok (.ret v)) z) : codeAny (model prog w) A (maxLp I S d) R s := by
  have outW : S ∉ wr := fun h => out (W.sub _ h)
  have wider : ∀ b ∈ wr, b ∈ S :: wr := fun b hb => List.mem_cons_of_mem _ hb
  have apart : ∀ {b : Addr}, b ∉ S :: wr → S ≠ b := fun hb h => hb (h ▸ List.mem_cons_self)
  have nm : (toString "max" ++ toString ".loop" : String) = "max.loop" := by decide
  refine codeAny_builtin F.entry_max_loop ?_
  rw [Around.under_plainId F.plain_max_loop _]
  by_cases hn : n = 0
  · subst hn
    refine wpAny_bind (wpAny_seqItems hS rfl (wpAny_bind (wpAny_tryCatch (W.done s _ _ hst fun s' mv => ?_))))
    refine wpAny_bind (wpAny_rule (wpAny_pure ?_))
    exact h0 rfl s' (mv.mono wider)
  · refine wpAny_bind (wpAny_seqItems hS rfl (wpAny_bind (wpAny_tryCatch (W.item 0 s _ _ (by omega) hst fun v s' hP hst' mv => ?_))))
    have hS' := mv.heap S _ outW hS
    refine wpAny_bind (wpAny_pure ?_)
    refine wpAny_bind ?_
    refine wpAny_updateSeq hS' rfl ?_
    rw [nm]
    refine wpAny_pure ⟨plainId_quiet F.plain_max_loop _, maxd_go W out (n - 1) 1 0 _ v _ (by omega) (by omega) (fun i hi => by rw [show i = 0 by omega]; exact Int.le_refl _) hP (W.frame _ s' _ s'.toks hst' (Nat.le_refl _) fun x hx o e => ?_) (Heap.get?_update_self _ hS' rfl) fun m' u z h1 h2 h3 h4 => ?_⟩
    · exact (Heap.get?_update_other _ _ (fun h : S = x => out (h ▸ hx))).trans e
    · exact hR m' u z h1 h2 h3 (Moved.trans W.gtrans ((mv.mono wider).then_heap (Nat.le_refl _) fun x o hx e => (Heap.get?_update_other _ _ (apart hx)).trans e) h4)
theorem maxd_args (a v : Value) : argsOk "max" ⟨[a], [(Str.ofString "default", v)]⟩ := by unfold argsOk; kernel_rfl
theorem maxd_call {x : Value} {s : Shared} {Q : Value → Shared → Prop}
    (h : wpAny (model prog w) A.in1 (pyIter x) (fun it z => ∃ I fp wr G n val St, it = .ref I ∧ WalksS prog w A.in1 I fp wr G n (isV val) St ∧ St 0 z ∧ (∀ b ∈ fp, b < z.heap.objs.size) ∧ (n = 0 → ∀ y, Moved wr G z y → Q d y) ∧
      ∀ m v y, m < n → (∀ i, i < n → val i ≤ val m) → isV val m v → Moved wr G z y → Q v y) E s) : wpAny (model prog w) A (call (.builtin "max") [x] [(Str.ofString "default", d)]) Q E s := by
  have nm : (toString "max" ++ toString ".loop" : String) = "max.loop" := by decide
  refine kmk_tree F.kind_max F.plain_max F.entry_max (maxd_args _ _) ?_
  refine wpAny_bind (m := Builtin.Builtins.bindParams "max" ["key", "default"] 0 ⟨[], [(Str.ofString "default", d)]⟩) (wpAny_of_eq (a := [none, some d]) (by first | rfl | kernel_rfl) ?_)
  refine wpAny_bind (wpAny_pure (wpAny_bind (wpAny_mono h (fun it z hz => ?_) fun _ _ e => e)))
  obtain ⟨I, fp, wr, G, n, val, St, rfl, W, hst, low, h0, hQ⟩ := hz
  refine wpAny_bind (wpAny_newObj_type ?_)
  have out : z.heap.objs.size ∉ fp := fun m => Nat.lt_irrefl _ (low _ m)
  rw [nm]
  refine wpAny_pure ⟨plainId_quiet F.plain_max_loop _, maxd_all (S := z.heap.objs.size) (c := 0) W out (W.frame 0 z _ z.toks hst (Nat.le_refl _) fun b _ o e => Heap.get?_push_of_some _ e) (Heap.get?_push_size _ rfl) (fun e y mv => ?_) fun m v y h1 h2 h3 mv => ?_⟩
  · exact h0 e y (Moved.drop_new (tk := z.toks) mv (Nat.le_refl _))
  · exact hQ m v y h1 h2 h3 (Moved.drop_new (tk := z.toks) mv (Nat.le_refl _))
end
end JvM
namespace Jv
open PySem PySem.Spec PyProof.Rows L2
/-- the greatest, 0 if there is none -/
def topI (ns : List Int) : Int := ns.foldl max 0
theorem foldl_max : ∀ (ns : List Int) (a m : Int), (m = a ∨ m ∈ ns) → a ≤ m → (∀ y, y ∈ ns → y ≤ m) → ns.foldl max a = m
  | [], a, m, h, _, _ => by
    rcases h with h | h
    · exact h.symm
    · cases h
  | x :: r, a, m, h, h1, h2 => by
    have hx := h2 x List.mem_cons_self
    rw [List.foldl_cons]
    refine foldl_max r (max a x) m ?_ (by omega) fun y hy => h2 y (List.mem_cons_of_mem _ hy)
    rcases h with h | h
    · left; omega
    · rcases List.mem_cons.mp h with h | h
      · left; omega
      · exact .inr h
def rMaxD (K : PySem.W.Frag) : List V → List V → Hp → VK → Prop := fun vs zs H Q => ∃ (x d : V) (ns : List Int), vs = [x] ∧ zs = [d] ∧ Sk K H x (ns.map V.int) ∧ (ns = [] → Q d H) ∧ (∀ m, m ∈ ns → (∀ y, y ∈ ns → y ≤ m) → Q (.int m) H)
section
variable {X : Cx}
theorem walk_any {pins : List (Addr × Obj)} {σ : L2.St} {H : Hp} {s : Shared} {a : Addr} {ns : List Int} {d : V} {dv : Value} {Q : VK} (hh : X.A.handled = none) (I : Inv X pins σ H s) (rd : RelV d dv) (its : List Value) (hi : IntsAre its ns)
    (h : wpAny (model X.prog X.w) X.A.in1 (pyIter (.ref a)) (fun it z => ∃ I fp wr G St, it = .ref I ∧ WalksS X.prog X.w X.A.in1 I fp wr G its.toArray.size (fun i v => its.toArray[i]? = some v) St ∧ St 0 z ∧ (∀ b ∈ fp, b < z.heap.objs.size) ∧
      (∀ y, Moved wr G z y → ∃ h' tk, y = { s with heap := h', toks := tk } ∧ ∀ b o, s.heap.get? b = some o → h'.get? b = some o)) X.xe s)
    (q0 : ns = [] → Q d H) (q1 : ∀ m, m ∈ ns → (∀ y, y ∈ ns → y ≤ m) → Q (.int m) H) : wpAny (model X.prog X.w) X.A (call (.builtin "max") [.ref a] [(Str.ofString "default", dv)]) (EP X pins σ Q) X.xe s := by
  have sz : its.toArray.size = ns.length := by rw [List.size_toArray]; exact hi.length
  refine JvM.maxd_call (wpAny_mono h (fun it z hz => ?_) fun _ _ e => e)
  obtain ⟨I0, fp, wr, G, St, e, W, hst, low, mv⟩ := hz
  have W2 : WalksS X.prog X.w X.A.in1 I0 fp wr G ns.length (JvM.isV fun i => ns.getD i 0) St := by
    rw [sz] at W
    exact ⟨W.sub, W.grefl, W.gtrans, W.frame, fun i s Q E hi0 st hQ => W.item i s Q E hi0 st fun v s' hv => hQ v s' (by
      obtain ⟨t, et⟩ := PyProof.Rows.IntsAre.int_at hi i v (by rw [← hv]; simp)
      exact ⟨t, et⟩), W.done, W.self⟩
  refine ⟨I0, fp, wr, G, ns.length, _, St, e, W2, hst, low, fun e0 y hy => ?_, fun m v y hm hb hv hy => ?_⟩
  · obtain ⟨h', tk, rfl, kp⟩ := mv y hy
    exact ⟨d, H, I.kept kp, rd, q0 (List.eq_nil_of_length_eq_zero e0)⟩
  · obtain ⟨h', tk, rfl, kp⟩ := mv y hy
    obtain ⟨t, rfl⟩ := hv
    refine ⟨.int _, H, I.kept kp, ⟨t, rfl⟩, q1 _ ?_ fun z hz => ?_⟩
    · show ns.getD m 0 ∈ ns
      exact PySem.getD_mem hm
    · obtain ⟨j, hj, rfl⟩ := mem_getD hz
      exact hb j hj

theorem cr_maxD (hc : X.calm = true) : CallRK X (.builtin "max") [Str.ofString "default"] (rMaxD X.K) := by
  intro pins s σ H vs zs us ws Q I r rz h
  obtain ⟨x, d, ns, rfl, rfl, ⟨a, rfl, hs | hs⟩, q0, q1⟩ := h
  · obtain ⟨its, rv, hl, hz⟩ := I.list hs
    obtain ⟨dv, rfl, rd⟩ := vals1 rz
    rw [Vals.ref1 r]
    have hh := I.ok.hd hc
    refine walk_any hh I rd its rv.ints ?_ q0 q1
    have hl2 := hl.isList
    obtain ⟨o, ho, _⟩ := id hl2
    have hne : a ≠ s.heap.objs.size := Nat.ne_of_lt (Heap.lt_size ho)
    refine wpAny_pyIter_list hl2 ⟨_, _, _, _, _, rfl, (Walks.list (prog := X.prog) (w := X.w) (A := X.A.in1) hh s.heap.objs.size a hne its.toArray).toS, ⟨⟨_, Heap.get?_push_size _ rfl, rfl, rfl⟩, hl2.at fun o e => Heap.get?_push_of_some _ e⟩, fun b hb => ?_, fun y mv => ?_⟩
    · rcases List.mem_cons.mp hb with rfl | hb
      · exact Heap.lt_size (Heap.get?_push_size _ rfl)
      · rw [List.mem_singleton.mp hb]
        exact Heap.lt_size (Heap.get?_push_of_some _ ho)
    · obtain ⟨h', g', d', tk', os'⟩ := y
      have e1 : g' = s.gens := mv.gens
      have e2 : d' = s.drawn := mv.drawn
      have e3 : os' = s.os := mv.os
      subst e1 e2 e3
      exact ⟨h', tk', rfl, fun b o e => mv.heap b o (fun hb => absurd (Heap.lt_size e) ((List.mem_singleton.mp hb) ▸ Nat.lt_irrefl _)) (Heap.get?_push_of_some _ e)⟩
  · obtain ⟨its, rv, ht, hz⟩ := I.tuple hs
    obtain ⟨dv, rfl, rd⟩ := vals1 rz
    rw [Vals.ref1 r]
    have hh := I.ok.hd hc
    refine walk_any hh I rd its rv.ints ?_ q0 q1
    obtain ⟨o, ho, _⟩ := id ht
    have hne : a ≠ s.heap.objs.size := Nat.ne_of_lt (Heap.lt_size ho)
    have ht : s.heap.IsTuple a its.toArray := ht
    refine wpAny_pyIter_tuple ht ⟨_, _, _, _, _, rfl, (Walks.tuple (prog := X.prog) (w := X.w) (A := X.A.in1) hh s.heap.objs.size a hne its.toArray).toS, ⟨⟨_, Heap.get?_push_size _ rfl, rfl, rfl⟩, ht.at fun o e => Heap.get?_push_of_some _ e⟩, fun b hb => ?_, fun y mv => ?_⟩
    · rcases List.mem_cons.mp hb with rfl | hb
      · exact Heap.lt_size (Heap.get?_push_size _ rfl)
      · rw [List.mem_singleton.mp hb]
        exact Heap.lt_size (Heap.get?_push_of_some _ ho)
    · obtain ⟨h', g', d', tk', os'⟩ := y
      have e1 : g' = s.gens := mv.gens
      have e2 : d' = s.drawn := mv.drawn
      have e3 : os' = s.os := mv.os
      subst e1 e2 e3
      exact ⟨h', tk', rfl, fun b o e => mv.heap b o (fun hb => absurd (Heap.lt_size e) ((List.mem_singleton.mp hb) ▸ Nat.lt_irrefl _)) (Heap.get?_push_of_some _ e)⟩
/-- what max(x, default=0) gives -/
theorem r_maxD {K : PySem.W.Frag} {H : Hp} {Q : VK} {x : V} {ns : List Int} (hx : Sk K H x (ns.map V.int)) (nn : ∀ n ∈ ns, 0 ≤ n) (q : Q (.int (topI ns)) H) : rMaxD K [x] [.int 0] H Q := by
  refine ⟨x, _, ns, rfl, rfl, hx, fun e => ?_, fun m h1 h2 => ?_⟩
  · rw [e] at q; exact q
  · have : topI ns = m := foldl_max ns 0 m (.inr h1) (nn m h1) h2
    rw [this] at q; exact q
end
end Jv

/-! ### generators: for, yield from a list -/
namespace Jv
open PySem PySem.Spec PyProof.Rows L2 GenW
section
variable {X : Cx}
def tGFor (wi : TI) (g : TG) (tb : TGn) : TGn := fun D ys σ H => wi σ H fun J H1 => ∃ W : Nat → Nat → List V → L2.St → Hp → Prop, (∃ m, W 0 m ys σ H1) ∧ ∀ i m ys σ H, W i m ys σ H →
  (J.stop i H ∧ D.nx ys σ H) ∨ (J.go i H ∧ ∃ N : List V → L2.St → Hp → Prop, (∀ ys' σ' H', N ys' σ' H' → ∃ m', m' < m ∧ W (i + 1) m' ys' σ' H') ∧
    ∀ x H', J.yld i H x H' → g x σ H' fun σ2 H2 => tb { D with nx := N, ct := N, bk := D.nx } ys σ2 H2)
theorem gs_for {iter tg : Expr} {body : List Stmt} {wi : TI} {g : TG} {tb : TGn} {pos : Pos} (hp : PassesOwn (model X.prog X.w) X.A X.env X.xe) (hc : X.calm = true) (hi : PI X tg iter wi) (hg : PG X tg g) (hb : GSs X body tb)
    (hs : ∀ x, foldedSetIterable iter X.env x = pure x := by intro _; rfl) : GS X (.For tg iter body [] pos) (tGFor wi g tb) := by
  refine ⟨fun A S ip R n ys s₀ c fs K J gd lv s σ H D gc hn k hI ht => ?_⟩
  rw [exec_For]
  obtain ⟨acc, cc, r, I⟩ := hI
  refine seg_bind_wrap (wpAny_standAt ?_)
  refine seg_bind_wrap ?_
  rw [gc.over]
  refine wpAny_mono (hi.run _ s σ H _ I ht) (fun v s1 h1 => ?_) fun x s' hx => k.exc n s₀ x s' hx
  refine seg_bind_wrap (wpAny_of_eq (hs v) ?_)
  refine seg_bind_wrap (wpAny_standAt ?_)
  refine seg_bind_wrap (wpAny_holding ?_)
  rw [gc.over]
  refine wpAny_mono h1 (fun itv s2 h2 => ?_) fun x s' hx => k.exc n s₀ x s' hx
  obtain ⟨it, fp, tn, T, H2, e, I2, tt, st2, f2, W, ⟨m0, w0⟩, turn⟩ := h2
  subst e
  refine seg_call fun p => ?_
  have gl := fun (kk : Result → Sem PySem.Fin) => gc_loop (k := kk) (c' := .forLoop tg (.ref it) body [] X.env) (l := lv []) (kp := []) (p := p) gc rfl rfl
  -- the loop's cells lie apart from what is kept, whatever is out
  have stat : ∀ {H' : Hp} {a' : Array Value} {c' : Nat}, (∀ b ∈ fp, H' b = none) → ∀ b ∈ fp, FpOk X ((S, lstObj a' c') :: ip) H' b := fun hn b hb => by
    obtain ⟨_, q1, q2, q3, q4, q5⟩ := f2 b hb
    refine ⟨hn b hb, q1, q2, q3, q4, fun p hp => ?_⟩
    rcases List.mem_append.mp hp with z | z
    · exact q5 p (List.mem_append_left _ z)
    · rcases List.mem_cons.mp z with z | z
      · rw [z]; exact q5 (S, lstObj acc cc) (List.mem_append_right _ List.mem_cons_self)
      · exact q5 p (List.mem_append_right _ (List.mem_cons_of_mem _ z))
  have apartS : ∀ b ∈ fp, b ≠ S := fun b hb z => (f2 b hb).2.2.2.2.2 (S, lstObj acc cc) (List.mem_append_right _ List.mem_cons_self) z.symm
  have loop : ∀ (m i n : Nat) (ys : List V) (s₀ s : Shared) (σ : L2.St) (H : Hp), n + ys.length = sizeLine → W i m ys σ H → GI X S ip ys σ H s → tn i s.heap → (∀ b ∈ fp, H b = none) →
      Seg (model X.prog X.w) A R (GY X S) n s₀ (.forLoop tg (.ref it) body [] X.env) ((model X.prog X.w).den (.forLoop tg (.ref it) body [] X.env))
        (.ret (fun r => ((match r with | .ok f => (.pure f : Sem Flow) | .error e => .raise e).onRaise (cameBack X.env)).wrap K J gd lv) none (gd false) (lv []) c p [] :: fs) s := by
    intro m
    induction m using Nat.strongRecOn with
    | ind m ih =>
      intro i n ys s₀ s σ H hn w hI st fr
      have ee : ∀ (n : Nat) (s₀ : Shared) (x : Value) (s' : Shared), X.xe x s' → Seg (model X.prog X.w) A R (GY X S) n s₀ (.forLoop tg (.ref it) body [] X.env)
          ((do noteFrame x X.env; theTreesLotGoes x : Sem Unit).wrap (fun _ => .raise x) .raise id id)
          (.ret (fun r => ((match r with | .ok f => (.pure f : Sem Flow) | .error e => .raise e).onRaise (cameBack X.env)).wrap K J gd lv) none (gd false) (lv []) c p [] :: fs) s' := fun n s₀ x s' hx => by
        refine seg_wrap ?_
        rw [(gl _).over]
        refine wpAny_bind (wpAny_mono (hp x s' hx) (fun _ s'' z => wpAny_theTreesLotGoes ?_) fun y s'' z => ?_)
        · exact seg_leaf (.error x) (seg_cameBack gc k z)
        · exact seg_leaf (.error y) (seg_cameBack gc k z)
      have ef : ∀ (n : Nat) (s₀ : Shared) (x : Value) (s' : Shared), X.xe x s' → Seg (model X.prog X.w) A R (GY X S) n s₀ (.forLoop tg (.ref it) body [] X.env)
          ((do noteFrame x X.env; theTreesLotGoes x : Sem Unit).bind fun _ => .raise x)
          (.ret (fun r => ((match r with | .ok f => (.pure f : Sem Flow) | .error e => .raise e).onRaise (cameBack X.env)).wrap K J gd lv) none (gd false) (lv []) c p [] :: fs) s' := fun n s₀ x s' hx => by
        rw [Sem.bind_eq_wrap]; exact ee n s₀ x s' hx
      show Seg (model X.prog X.w) A R (GY X S) n s₀ _ ((forTurn tg (.ref it) body [] X.env).onRaise fun x => do noteFrame x X.env; theTreesLotGoes x) _ s
      rw [Sem.onRaise_eq_wrap]
      unfold forTurn
      obtain ⟨acc, cc, r, I⟩ := hI
      have s3 := stat (a' := acc) (c' := cc) fr
      refine seg_bind_wrap (wpAny_standAt ?_)
      refine seg_bind_wrap ?_
      rw [(gl _).over]
      rcases turn i m ys σ H w with ⟨stop, qn⟩ | ⟨go, N, hN, step⟩
      · refine wpAny_onRaise (wpAny_mono (tt.done X rfl rfl rfl hc i ((S, lstObj acc cc) :: ip) s σ H X.xe I s3 st stop) (fun r0 s4 h4 => ?_) fun x s' hx => wpAny_standAt (ef n s₀ x s' hx))
        obtain ⟨e, I4⟩ := h4
        subst e
        refine seg_again rfl ?_
        show Seg (model X.prog X.w) A R (GY X S) n s₀ (.block [] X.env) (Sem.pure (.done .next)) _ s4
        exact seg_leaf (.ok .next) (k.ok n ys s₀ s4 .next hn ⟨σ, H, ⟨acc, cc, r, I4⟩, qn⟩)
      · refine wpAny_onRaise (wpAny_mono (tt.item X rfl rfl rfl hc i ((S, lstObj acc cc) :: ip) s σ H X.xe I s3 st go) (fun r0 s4 h4 => ?_) fun x s' hx => wpAny_standAt (ef n s₀ x s' hx))
        obtain ⟨u, e, h4⟩ := h4
        subst e
        refine seg_bind_wrap ?_
        rw [(gl _).over]
        refine wpAny_mono h4 (fun _ s5 h5 => ?_) fun x s' hx => ef n s₀ x s' hx
        obtain ⟨x, H5, I5, r5, y5, st5, fr5⟩ := h5
        have I5' := I5.pinned (stat fr5) (tt.obj _ _ st5)
        refine seg_bind_wrap ?_
        rw [(gl _).over]
        refine wpAny_mono (hg.run _ s5 σ H5 x u _ I5' r5 (step x H5 y5)) (fun _ s6 h6 => ?_) fun x s' hx => ef n s₀ x s' hx
        obtain ⟨σ6, H6, I6, q6⟩ := h6
        rw [Sem.bind_eq_wrap', Sem.wrap_wrap]
        have g2 : GC X S (ip ++ pinsAt fp s5.heap) A (.forLoop tg (.ref it) body [] X.env) (.ret (fun r => ((match r with | .ok f => (.pure f : Sem Flow) | .error e => .raise e).onRaise (cameBack X.env)).wrap K J gd lv) none (gd false) (lv []) c p [] :: fs) (fun g => id (id g)) :=
          { pn := gc.pn, ip := fun p hp => by
              rcases List.mem_append.mp hp with z | z
              · exact gc.ip p z
              · exact apartS _ (of_pinsAt z).1
            apart := gc.apart, over := (gl _).over, split := (gl _).split, guard := (gl _).guard, gd := rfl }
        have again : ∀ {ys' : List V} {s₀ s7 : Shared} {n' : Nat} {σ7 : L2.St} {H7 : Hp}, n' + ys'.length = sizeLine → GI X S (ip ++ pinsAt fp s5.heap) ys' σ7 H7 s7 → N ys' σ7 H7 →
            Seg (model X.prog X.w) A R (GY X S) n' s₀ (.forLoop tg (.ref it) body [] X.env) (Sem.pure (.again (.forLoop tg (.ref it) body [] X.env)))
              (.ret (fun r => ((match r with | .ok f => (.pure f : Sem Flow) | .error e => .raise e).onRaise (cameBack X.env)).wrap K J gd lv) none (gd false) (lv []) c p [] :: fs) s7 := fun {ys' s₀ s7 n' σ7 H7} hn' hG n7 => by
          obtain ⟨acc7, c7, r7, I7⟩ := hG
          obtain ⟨m', hm, w7⟩ := hN ys' σ7 H7 n7
          have at7 : ∀ b ∈ fp, ∀ o, s5.heap.get? b = some o → s7.heap.get? b = some o ∧ H7 b = none := fun b hb o e => by
            obtain ⟨z1, z2, _⟩ := I7.pin (b, o) (List.mem_append_right _ (List.mem_cons_of_mem _ (List.mem_append_right _ (mem_pinsAt hb e))))
            exact ⟨z1, z2⟩
          refine seg_again rfl (ih m' hm (i + 1) n' ys' s₀ s7 σ7 H7 hn' w7 ⟨acc7, c7, r7, I7.pins_of fun p hp => I7.pin p ?_⟩ (tt.keep _ _ _ st5 fun b hb o e => (at7 b hb o e).1) fun b hb => ?_)
          · refine List.mem_append_right _ ?_
            rcases List.mem_cons.mp hp with z | z
            · rw [z]; exact List.mem_cons_self
            · exact List.mem_cons_of_mem _ (List.mem_append_left _ z)
          · obtain ⟨o, e, d⟩ := tt.obj _ _ st5 b hb
            exact (at7 b hb o e).2
        have out : ∀ {ys' : List V} {σ7 : L2.St} {H7 : Hp} {s7 : Shared}, GI X S (ip ++ pinsAt fp s5.heap) ys' σ7 H7 s7 → GI X S ip ys' σ7 H7 s7 := fun {ys' σ7 H7 s7} hG => by
          obtain ⟨acc7, c7, r7, I7⟩ := hG
          refine ⟨acc7, c7, r7, I7.pins_of fun p hp => I7.pin p ?_⟩
          refine List.mem_append_right _ ?_
          rcases List.mem_cons.mp hp with z | z
          · rw [z]; exact List.mem_cons_self
          · exact List.mem_cons_of_mem _ (List.mem_append_left _ z)
        refine hb.run A S (ip ++ pinsAt fp s5.heap) R n ys s₀ _ _ _ _ _ _ s6 σ6 H6 { D with nx := N, ct := N, bk := D.nx } g2 hn ⟨fun n' ys' s₀' s7 f hn' h7 => ?_, fun n' s₀' x s7 hx => ef n' s₀' x s7 hx⟩ ⟨acc, cc, r, I6⟩ q6
        cases f with
        | next => obtain ⟨σ7, H7, I7, n7⟩ := h7; exact again hn' I7 n7
        | cont => obtain ⟨σ7, H7, I7, n7⟩ := h7; exact again hn' I7 n7
        | brk =>
          obtain ⟨σ7, H7, I7, n7⟩ := h7
          exact seg_leaf (.ok .next) (k.ok n' ys' s₀' s7 .next hn' ⟨σ7, H7, out I7, n7⟩)
        | ret v =>
          obtain ⟨x7, σ7, H7, I7, r7, n7⟩ := h7
          exact seg_leaf (.ok (.ret v)) (k.ok n' ys' s₀' s7 (.ret v) hn' ⟨x7, σ7, H7, out I7, r7, n7⟩)
  exact loop m0 0 n ys s₀ s2 σ H2 hn w0 ⟨acc, cc, r, I2⟩ st2 fun b hb => (f2 b hb).1

/-! ### yield from a list -/
section
variable {prog : Program} {w : World} {A : Around} {E : Value → Shared → Prop} {s : Shared} {it l : Addr} {i : Nat} {items : Array Value}
theorem lst_item {x : Value} {Q : Option Value → Shared → Prop} (ho : s.heap.get? it = some (GNX.itObj l i)) (hl : s.heap.IsList l items) (hx : items[i]? = some x)
    (q : ∀ h', h'.get? it = some (GNX.itObj l (i + 1)) → Heap.SameBut it s.heap h' → Q (some x) { s with heap := h' }) : wpAny (model prog w) A (callSpecial? (.ref it) "__next__") Q E s := by
  have hT : s.TypeIs (.ref it) "list_iterator" := ⟨_, ho, rfl⟩
  refine wpAny_callSpecial?_slot (name := Str.ofString "__next__") hT slot_listiter_next (wpAny_call_entry slot_listiter_next hT entry_listiter_next ?_ (args_listiter_next _))
  exact wpAny_mono (GNX.next_item ho hl hx q) (fun fin s' z => z) fun _ _ z => z
theorem lst_end {Q : Option Value → Shared → Prop} (hh : A.handled = none) (ho : s.heap.get? it = some (GNX.itObj l i)) (hl : s.heap.IsList l items) (hx : items[i]? = none)
    (k : ∀ e h', StopX e h' → (∀ b o, b ≠ it → s.heap.get? b = some o → h'.get? b = some o) → E e { s with heap := h' }) : wpAny (model prog w) A (callSpecial? (.ref it) "__next__") Q E s := by
  have hT : s.TypeIs (.ref it) "list_iterator" := ⟨_, ho, rfl⟩
  obtain ⟨ol, hol, _, nl, hdl⟩ := hl
  refine wpAny_callSpecial?_slot (name := Str.ofString "__next__") hT slot_listiter_next (wpAny_call_entry slot_listiter_next hT entry_listiter_next ?_ (args_listiter_next _))
  show wpAny _ _ (field (.ref it) 0 >>= _) _ _ s
  refine wpAny_bind (wpAny_field ho rfl (x := .ref l) rfl (show wpAny _ _ (if (Value.ref l == Value.none) = true then _ else _) _ _ s from ?_))
  rw [if_neg (show ¬ ((Value.ref l == Value.none) = true) from Bool.false_ne_true)]
  refine wpAny_bind (m := field (.ref it) 1) (wpAny_field ho rfl (x := .int i 0) rfl (wpAny_bind (m := seqItems? (.ref l)) (wpAny_seqItems hol hdl ?_)))
  simp only [Int.toNat_natCast, hx]
  refine wpAny_bind (wpAny_rule (wpAny_bind (wpAny_setField ho rfl (by simp) ?_)))
  refine wpAny_bind (m := newExc (.type "StopIteration") []) ?_
  simp only [newExc, newTuple]
  refine wpAny_bind (wpAny_newObj_type ?_ (by size_fits))
  refine wpAny_bind (m := firstArgMember _ _) (wpAny_of_eq (a := Value.none) (by first | rfl | (simp only [firstArgMember]; rfl)) ?_)
  refine wpAny_newObj_type ?_ (by size_fits)
  simp only [raiseNew]
  refine wpAny_bind (wpAny_handled ?_)
  first | rw [show A.in1.handled = none from hh] | rw [hh]
  refine wpAny_bind (wpAny_pure (wpAny_throw ?_))
  refine k _ _ ⟨_, _, _, rfl, Heap.get?_push_size _ rfl, rfl, rfl, ?_⟩ (((Heap.SameBut.update ..).extBut.push _).push _)
  first
    | rfl
    | (rw [Array.getElem?_append_left (by decide)]; rfl)
    | kernel_rfl
end
theorem close_lst : typeLookup (.type "list_iterator") "close" = pure none := by rw [typeLookup_type, builtinLookup_eq_fast]; kernel_rfl
def tYfLst (te : TE) : TYf := fun σ H Q => te σ H fun x H1 => ∃ a xs, x = .ref a ∧ H1 a = some (.lst xs) ∧ Q xs H1
theorem yf_lst {e : Expr} {te : TE} (he : PE X e te) : YfE X e (tYfLst te) := by
  refine ⟨fun pins s σ H Q I h => ?_⟩
  refine thn (he.run pins s σ H _ I h) fun v s1 ⟨x, H1, I1, r1, a, xs, ex, ha, hq⟩ => ?_
  subst ex
  obtain rfl : v = Value.ref a := r1
  obtain ⟨its, rits, hl, hz⟩ := I1.list (Jv.sqL_at ha)
  have hL := hl.isList
  have lt : a < s1.heap.objs.size := by obtain ⟨o, ho, _⟩ := hL; exact Heap.lt_size ho
  refine ⟨"list", hL.typeIs, by decide, wpAny_pyIter_list hL ?_⟩
  have ksz : ∀ b o, s1.heap.get? b = some o → b ≠ s1.heap.objs.size := fun b o e => Nat.ne_of_lt (Heap.lt_size e)
  have kp : ∀ b o, s1.heap.get? b = some o → (s1.heap.push (GNX.itObj a 0)).get? b = some o := fun b o e => Heap.get?_push_of_some _ e
  refine ⟨s1.heap.objs.size, H1, xs, fun j h => h.get? s1.heap.objs.size = some (GNX.itObj a j) ∧ h.IsList a its.toArray, rfl, I1.kept (t' := s1.toks) kp, .inr I1.sz, Nat.ne_of_gt I1.lt, fun y c hy => ?_, I1.hok.fresh (Nat.le_refl _), fun p hp => ?_,
    ⟨Heap.get?_push_size _ rfl, hL.at fun o e => Heap.get?_push_of_some _ e⟩, ⟨⟨"list_iterator", fun j h q => ⟨_, q.1, rfl⟩, close_lst, by decide⟩, fun j h h' q hk => ?_, fun A' j x s2 Q' E' hA hx q hQ => ?_, fun A' s2 Q' E' hA q hE => ?_⟩, hq⟩
  · obtain ⟨v, o, ho, _⟩ := I1.cell y c hy
    exact ksz c o ho
  · exact ksz p.1 _ (I1.pin p hp).1
  · exact ⟨hk _ _ (.inl rfl) q.1, q.2.at fun o e => hk a o (.inr (by rw [ha]; exact fun z => by cases z)) e⟩
  · obtain ⟨u, hu, ru⟩ := rits.get hx
    exact lst_item q.1 q.2 (x := u) (by simpa using hu) fun h' q1 hs => hQ u h' s2.toks ru ⟨q1, q.2.at fun o e => hs.extBut a o (Nat.ne_of_lt lt) e⟩ fun b o hb eb => hs.extBut b o hb eb
  · have hnone : its.toArray[xs.length]? = none := by
      have e := rits.length
      have e2 : its[xs.length]? = none := List.getElem?_eq_none_iff.mpr (by omega)
      simpa using e2
    exact lst_end hA q.1 q.2 hnone fun e h' hS hk => hE e h' s2.toks hS fun b o hb eb => hk b o hb eb
end
end Jv

/-! ### slices with a step -/
namespace Jv
open PySem PySem.Spec PyProof.Rows L2
/-- every k-th item from place i on -/
def evr {α : Type} : Nat → Nat → List α → List α
  | _, _, [] => []
  | 0, k, x :: r => x :: evr (k - 1) k r
  | i + 1, k, _ :: r => evr i k r
theorem evr_len {α : Type} : ∀ (xs : List α) (i k : Nat), (evr i k xs).length ≤ xs.length
  | [], _, _ => by simp [evr]
  | x :: r, 0, k => by
    rw [evr, List.length_cons, List.length_cons]
    exact Nat.succ_le_succ (evr_len r (k - 1) k)
  | x :: r, i + 1, k => by
    rw [evr, List.length_cons]
    exact Nat.le_succ_of_le (evr_len r i k)
theorem evr_map {α β : Type} (f : α → β) : ∀ (xs : List α) (i k : Nat), evr i k (xs.map f) = (evr i k xs).map f
  | [], _, _ => by simp [evr]
  | x :: r, 0, k => by rw [List.map_cons, evr, evr, List.map_cons, evr_map f r]
  | x :: r, i + 1, k => by rw [List.map_cons, evr, evr, evr_map f r]
theorem evr_vals {k : Nat} : ∀ {xs : List V} {us : List Value} (i : Nat), Vals xs us → Vals (evr i k xs) (evr i k us)
  | _, _, _, .nil => by simp [evr]; exact .nil
  | _, _, 0, .cons r t => by rw [evr, evr]; exact .cons r (evr_vals (k - 1) t)
  | _, _, i + 1, .cons r t => by rw [evr, evr]; exact evr_vals i t
/-- by places -/
theorem evr_pick {α : Type} {k : Nat} (hk : 1 ≤ k) : ∀ (xs : List α) (i : Nat), ((List.range ((xs.length - i + k - 1) / k)).filterMap fun m => xs[i + m * k]?) = evr i k xs
  | [], i => by
    have e : (([] : List α).length - i + k - 1) / k = 0 := Nat.div_eq_of_lt (by simp; omega)
    rw [e]; cases i <;> simp [evr]
  | x :: r, 0 => by
    have e : ((x :: r).length - 0 + k - 1) / k = (r.length - (k - 1) + k - 1) / k + 1 := by
      rw [List.length_cons]
      by_cases h : k - 1 ≤ r.length
      · rw [show r.length + 1 - 0 + k - 1 = r.length + k by omega, show r.length - (k - 1) + k - 1 = r.length by omega, Nat.add_div_right _ (by omega)]
      · rw [show r.length + 1 - 0 + k - 1 = r.length + k by omega, Nat.add_div_right _ (by omega), Nat.div_eq_of_lt (by omega), Nat.div_eq_of_lt (by omega)]
    rw [e, List.range_succ_eq_map, List.filterMap_cons]
    have h0 : (x :: r)[0 + 0 * k]? = some x := by simp
    rw [h0]
    dsimp only
    rw [List.filterMap_map, evr]
    have ih := evr_pick hk r (k - 1)
    rw [← ih]
    congr 2
    funext m
    show (x :: r)[0 + (m + 1) * k]? = r[k - 1 + m * k]?
    rw [show 0 + (m + 1) * k = (k - 1 + m * k) + 1 by rw [Nat.succ_mul]; omega]
    rfl
  | x :: r, i + 1 => by
    have ih := evr_pick hk r i
    rw [evr, ← ih, List.length_cons, show r.length + 1 - (i + 1) = r.length - i by omega]
    congr 1
    funext m
    rw [show i + 1 + m * k = (i + m * k) + 1 by omega]
    rfl
theorem evr_past {α : Type} {k : Nat} : ∀ (xs : List α) (i : Nat), xs.length ≤ i → evr i k xs = []
  | [], i, _ => by cases i <;> rfl
  | x :: r, 0, h => by simp at h
  | x :: r, i + 1, h => by rw [evr]; exact evr_past r i (by simpa using h)
theorem evr_min {α : Type} {k : Nat} {xs : List α} {i : Nat} : evr (min i xs.length) k xs = evr i k xs := by
  by_cases h : i ≤ xs.length
  · rw [Nat.min_eq_left h]
  · rw [Nat.min_eq_right (by omega), evr_past xs xs.length (Nat.le_refl _), evr_past xs i (by omega)]
/-- what follows the last item -/
theorem evr_snoc {α : Type} {k : Nat} (hk : 1 ≤ k) {x : α} : ∀ (xs : List α) (i : Nat), evr i k (xs ++ [x]) = evr i k xs ++ if i ≤ xs.length ∧ (xs.length - i) % k = 0 then [x] else []
  | [], 0 => by simp [evr]
  | [], i + 1 => by simp [evr]
  | y :: r, 0 => by
    rw [List.cons_append, evr, evr, evr_snoc hk r (k - 1), List.cons_append]
    congr 2
    simp only [List.length_cons, Nat.sub_zero, Nat.zero_le, true_and]
    by_cases h : k - 1 ≤ r.length
    · have e : (r.length + 1) % k = (r.length - (k - 1)) % k := by
        rw [show r.length + 1 = (r.length - (k - 1)) + k by omega, Nat.add_mod_right]
      rw [e]; simp [h]
    · have e : ¬ (r.length + 1) % k = 0 := by
        rw [Nat.mod_eq_of_lt (by omega)]; omega
      rw [if_neg (fun z => h z.1), if_neg e]
  | y :: r, i + 1 => by
    rw [List.cons_append, evr, evr, evr_snoc hk r i]
    congr 2
    simp
theorem lst_pick {its : List Value} {i k : Nat} (hk : 1 ≤ k) : slicePick its.toArray (some (i : Int)) none (some (k : Int)) = (evr i k its).toArray := by
  have h0 : ((k : Int)) > 0 := by omega
  unfold slicePick sliceBounds sliceRange
  simp only [Option.getD_some, h0, if_true, List.size_toArray]
  rw [← evr_min, ← evr_pick hk its (min i its.length)]
  congr 1
  have hn : ¬ ((i : Int) < 0) := by omega
  simp only [hn, if_false]
  have e : (max 0 (min (i : Int) (its.length : Int))) = ((min i its.length : Nat) : Int) := by omega
  rw [e]
  have cnt : (if ((min i its.length : Nat) : Int) < (its.length : Int) then ((its.length : Int) - ((min i its.length : Nat) : Int) + (k : Int) - 1) / (k : Int) else 0).toNat = (its.length - min i its.length + k - 1) / k := by
    by_cases h : i < its.length
    · have h2 : ((min i its.length : Nat) : Int) < (its.length : Int) := by omega
      rw [if_pos h2]
      have e2 : (its.length : Int) - ((min i its.length : Nat) : Int) + (k : Int) - 1 = ((its.length - min i its.length + k - 1 : Nat) : Int) := by omega
      rw [e2, ← Int.natCast_ediv]; exact Int.toNat_natCast _
    · have h2 : ¬ ((min i its.length : Nat) : Int) < (its.length : Int) := by omega
      rw [if_neg h2, Nat.div_eq_of_lt (by omega)]; rfl
  rw [cnt, List.filterMap_map]
  congr 1
  funext m
  show its.toArray[(((min i its.length : Nat) : Int) + (k : Int) * (m : Int)).toNat]? = its[min i its.length + m * k]?
  have e3 : (((min i its.length : Nat) : Int) + (k : Int) * (m : Int)).toNat = min i its.length + m * k := by
    rw [show ((min i its.length : Nat) : Int) + (k : Int) * (m : Int) = ((min i its.length + m * k : Nat) : Int) by push_cast; rw [Int.mul_comm]]
    exact Int.toNat_natCast _
  rw [e3]; simp
section
variable {prog : Program} {w : World} {A : Around} {E : Value → Shared → Prop} {s : Shared}
theorem applied_k {sl : Addr} {vl vu vk : Value} {lo hi : Option Int} {k n : Int} {Q : Int × Int × Nat → Shared → Prop} (hs : s.heap.IsSliceOf sl vl vu vk) (pl : IsPart vl lo) (pu : IsPart vu hi) (pk : IsPart vk (some k)) (h0 : k ≠ 0)
    (h : Q ((Builtin.Slice.sliceAdjust lo hi k n).1, k, Builtin.Slice.slicePlaces (Builtin.Slice.sliceAdjust lo hi k n).1 (Builtin.Slice.sliceAdjust lo hi k n).2 k) s) : wpAny (model prog w) A (Builtin.Slice.sliceApplied (.ref sl) (pure n)) Q E s := by
  obtain ⟨os, at1, _, at2⟩ := id hs
  unfold Builtin.Slice.sliceApplied Builtin.Slice.sliceFields
  refine wpAny_bind (wpAny_bind (wpAny_field at1 at2 (x := vl) rfl (wpAny_bind (wpAny_field at1 at2 (x := vu) rfl (wpAny_bind (wpAny_field at1 at2 (x := vk) rfl (wpAny_pure (wpAny_bind (HT.slicePart_ pk ?_)))))))))
  have z : ¬ (((some k).getD 1 == 0) = true) := by simpa using h0
  dsimp only
  rw [if_neg z]
  refine wpAny_bind (HT.slicePart_ pl (wpAny_bind (HT.slicePart_ pu (wpAny_bind (wpAny_pure ?_)))))
  exact wpAny_pure h
/-- t[lo:hi:k], k not 1 -/
theorem tup_step {t sl : Addr} {its : List Value} {vl vu vk : Value} {lo hi : Option Int} {k : Int} {Q : Value → Shared → Prop} (ht : IsTup s.heap t its.toArray) (hs : s.heap.IsSliceOf sl vl vu vk) (pl : IsPart vl lo) (pu : IsPart vu hi) (pk : IsPart vk (some k)) (h0 : k ≠ 0) (h1 : k ≠ 1)
    (out : List Value) (ho : (List.range (Builtin.Slice.slicePlaces (Builtin.Slice.sliceAdjust lo hi k its.length).1 (Builtin.Slice.sliceAdjust lo hi k its.length).2 k)).filterMap (fun (m : Nat) => its[((Builtin.Slice.sliceAdjust lo hi k its.length).1 + (m : Int) * k).toNat]?) = out) (hz : out.length ≤ sizeLine)
    (h : Q (.ref s.heap.objs.size) { s with heap := s.heap.push { cls := .type "tuple", data := .seq out.toArray } }) : wpAny (model prog w) A (getItem (.ref t) (.ref sl)) Q E s := by
  obtain ⟨os, at1, at3, at2⟩ := id hs
  have hTs : s.TypeIs (.ref sl) "slice" := ⟨os, at1, at3⟩
  unfold getItem
  try with_reducible refine wpAny_holding ?_
  first | refine wpAny_bind (wpAny_pure ?_) | skip
  refine wpAny_bind (wpAny_sequenceKey ht.typeIs (by decide) (wpAny_bind (wpAny_callSpecial?_slot (name := Str.ofString "__getitem__") ht.typeIs PyProof.Rows.slot_tuple_getitem (wpAny_call_entry PyProof.Rows.slot_tuple_getitem ht.typeIs entry_tuple_getitem ?_ (args_tuple_getitem _ _)))))
  refine wpAny_bind (m := Builtin.Tuple.tupleItemsOf (.ref t)) (tupleItemsOf_ ht (wpAny_bind (wpAny_typeOf hTs ?_)))
  rw [if_pos (by decide)]
  refine wpAny_bind (applied_k hs pl pu pk h0 ?_)
  rw [List.size_toArray]
  have no : ¬ (((Builtin.Slice.sliceAdjust lo hi k its.length).1 == 0 && k == 1 && (Builtin.Slice.slicePlaces (Builtin.Slice.sliceAdjust lo hi k its.length).1 (Builtin.Slice.sliceAdjust lo hi k its.length).2 k) == its.length) = true) := by
    have : (k == 1) = false := by simpa using h1
    rw [this, Bool.and_false, Bool.false_and]; exact Bool.false_ne_true
  dsimp only
  rw [if_neg no]
  have e : ((List.range (Builtin.Slice.slicePlaces (Builtin.Slice.sliceAdjust lo hi k its.length).1 (Builtin.Slice.sliceAdjust lo hi k its.length).2 k)).filterMap fun (m : Nat) => its.toArray[((Builtin.Slice.sliceAdjust lo hi k its.length).1 + (m : Int) * k).toNat]?) = out := by
    rw [← ho]; congr 1; funext m; simp
  rw [e]
  have hz2 : sizeOk (.seq out.toArray) := by show out.toArray.size ≤ sizeLine; rw [List.size_toArray]; exact hz
  first
    | exact wpAny_bind (m := Builtin.Tuple.tupleExact _) (wpAny_newObj_type (wpAny_pure ⟨_, rfl, wpAny_pure h⟩) hz2)
    | exact wpAny_bind (m := Builtin.Tuple.tupleExact _) (wpAny_newObj_type (wpAny_bind (wpAny_pure (wpAny_pure ⟨_, rfl, wpAny_pure h⟩))) hz2)
    | exact wpAny_bind (wpAny_bind (m := Builtin.Tuple.tupleExact _) (wpAny_newObj_type (wpAny_pure (wpAny_pure ⟨_, rfl, wpAny_pure h⟩)) hz2))
    | exact wpAny_bind (wpAny_bind (m := Builtin.Tuple.tupleExact _) (wpAny_newObj_type (wpAny_pure ⟨_, rfl, wpAny_pure h⟩) hz2))
end
theorem tup_pick {its : List Value} {i k : Nat} (hk : 1 ≤ k) : (List.range (Builtin.Slice.slicePlaces (Builtin.Slice.sliceAdjust (some (i : Int)) none (k : Int) its.length).1 (Builtin.Slice.sliceAdjust (some (i : Int)) none (k : Int) its.length).2 (k : Int))).filterMap (fun (m : Nat) => its[((Builtin.Slice.sliceAdjust (some (i : Int)) none (k : Int) its.length).1 + (m : Int) * (k : Int)).toNat]?) = evr i k its := by
  have e : Builtin.Slice.sliceAdjust (some (i : Int)) none (k : Int) its.length = (((min i its.length : Nat) : Int), (its.length : Int)) := by
    unfold Builtin.Slice.sliceAdjust
    have h1 : ¬ ((k : Int) < 0) := by omega
    have h2 : ¬ ((i : Int) < 0) := by omega
    simp only [h1, h2, if_false]
    refine Prod.ext ?_ rfl
    show min (i : Int) (its.length : Int) = _
    omega
  rw [e]
  dsimp only
  rw [← evr_min, ← evr_pick hk its (min i its.length)]
  have cnt : Builtin.Slice.slicePlaces ((min i its.length : Nat) : Int) (its.length : Int) (k : Int) = (its.length - min i its.length + k - 1) / k := by
    unfold Builtin.Slice.slicePlaces
    rw [if_pos (show (k : Int) > 0 by omega)]
    by_cases h : i < its.length
    · have h2 : ((min i its.length : Nat) : Int) < (its.length : Int) := by omega
      rw [if_pos h2]
      have e2 : (its.length : Int) - ((min i its.length : Nat) : Int) - 1 = ((its.length - min i its.length - 1 : Nat) : Int) := by omega
      rw [e2, ← Int.natCast_ediv, show its.length - min i its.length + k - 1 = (its.length - min i its.length - 1) + k by omega, Nat.add_div_right _ (by omega)]
      generalize (its.length - min i its.length - 1) / k = d
      omega
    · have h2 : ¬ ((min i its.length : Nat) : Int) < (its.length : Int) := by omega
      rw [if_neg h2, Nat.div_eq_of_lt (by omega)]; rfl
  rw [cnt]
  congr 1
theorem fm_map {α β : Type} {f : α → Option β} {g : α → β} : ∀ {l : List α}, (∀ m ∈ l, f m = some (g m)) → l.filterMap f = l.map g
  | [], _ => rfl
  | a :: r, h => by rw [List.filterMap_cons, h a List.mem_cons_self, List.map_cons, fm_map fun m hm => h m (List.mem_cons_of_mem _ hm)]
theorem tup_rev {its : List Value} : (List.range (Builtin.Slice.slicePlaces (Builtin.Slice.sliceAdjust none none (-1) its.length).1 (Builtin.Slice.sliceAdjust none none (-1) its.length).2 (-1))).filterMap (fun (m : Nat) => its[((Builtin.Slice.sliceAdjust none none (-1) its.length).1 + (m : Int) * (-1)).toNat]?) = its.reverse := by
  have e : Builtin.Slice.sliceAdjust none none (-1) its.length = ((its.length : Int) - 1, (-1 : Int)) := by
    unfold Builtin.Slice.sliceAdjust
    simp
  rw [e]
  dsimp only
  have cnt : Builtin.Slice.slicePlaces ((its.length : Int) - 1) (-1) (-1) = its.length := by
    unfold Builtin.Slice.slicePlaces
    rw [if_neg (by decide)]
    by_cases h : its.length = 0
    · rw [h]; decide
    · rw [if_pos (by omega), show -(-1 : Int) = 1 by decide, Int.ediv_one]; omega
  rw [cnt]
  apply List.ext_getElem?
  intro j
  have hf : ∀ n : Nat, n ≤ its.length → (List.range n).filterMap (fun (m : Nat) => its[((its.length : Int) - 1 + (m : Int) * (-1)).toNat]?) = (List.range n).map fun m => its.getD (its.length - 1 - m) .none := by
    intro n hn
    refine fm_map fun m hm => ?_
    have hm' := List.mem_range.mp hm
    have e4 : ((its.length : Int) - 1 + (m : Int) * (-1)).toNat = its.length - 1 - m := by omega
    rw [e4, List.getElem?_eq_getElem (by omega)]
    simp [List.getD_eq_getElem?_getD, List.getElem?_eq_getElem (show its.length - 1 - m < its.length by omega)]
  rw [hf _ (Nat.le_refl _), List.getElem?_map]
  by_cases h : j < its.length
  · rw [List.getElem?_range h, List.getElem?_reverse h]
    simp [List.getD_eq_getElem?_getD, List.getElem?_eq_getElem (show its.length - 1 - j < its.length by omega)]
  · rw [List.getElem?_eq_none (by simpa using h), List.getElem?_eq_none (by simpa using h)]; rfl
/-- x[i::k], x a list or a tuple -/
def rEvr (K : PySem.W.Frag) (x : V) (i k : Nat) : Hp → VK → Prop := fun H Q => ∃ a xs, x = .ref a ∧ 2 ≤ k ∧ ((SqL K H a xs ∧ ∀ p, H p = none → Q (.ref p) (upd H p (.lst (evr i k xs)))) ∨ (SqT K H a xs ∧ ∀ p, H p = none → Q (.ref p) (upd H p (.tup (evr i k xs)))))
def tEvr (K : PySem.W.Frag) (te ti tk : TE) : TE := fun σ H Q => te σ H fun x H1 => ti σ H1 fun y H2 => tk σ H2 fun z H3 => ∃ i k : Nat, y = .int i ∧ z = .int k ∧ rEvr K x i k H3 Q
section
variable {X : Cx}
theorem pe_evr {e ei ek : Expr} {te ti tk : TE} {p3 pos : Pos} (he : PE X e te) (hi : PE X ei ti) (hk : PE X ek tk) : PE X (.Subscript e (.Slice (some ei) none (some ek) p3) pos) (tEvr X.K te ti tk) := by
  refine ⟨fun pins s σ H Q I h => ?_⟩
  refine Subscript_ (thn (he.run pins s σ H _ I h) fun v s1 ⟨x, H1, I1, r1, q1⟩ => ?_)
  refine wpAny_Slice ?_
  rw [evalPart_some]
  refine thn (hi.run pins s1 σ H1 _ I1 q1) fun vl s2 ⟨y, H2, I2, r2, q2⟩ => ?_
  rw [evalPart_none]
  refine wpAny_pure ?_
  rw [evalPart_some]
  refine thn (hk.run pins s2 σ H2 _ I2 q2) fun vk s3 ⟨z, H3, I3, r3, q3⟩ => ?_
  obtain ⟨i, k, rfl, rfl, a, xs, rfl, k2, q⟩ := q3
  obtain ⟨t1, rfl⟩ := r2
  obtain ⟨t2, rfl⟩ := r3
  cases r1
  have I5 : Inv X pins σ H3 { s3 with heap := s3.heap.push { cls := .type "slice", data := .fields #[.int i t1, .none, .int k t2] } } := I3.kept (t' := s3.toks) fun b ob q => Heap.get?_push_of_some _ q
  show wpAny (model X.prog X.w) X.A (subscriptTail e (.Slice (some ei) none (some ek) p3) (.ref a) (.ref s3.heap.objs.size)) (EP X pins σ Q) X.xe { s3 with heap := s3.heap.push { cls := .type "slice", data := .fields #[.int i t1, .none, .int k t2] } }
  rcases q with ⟨hx, q⟩ | ⟨hx, q⟩
  · obtain ⟨its, r, ht, hz⟩ := I5.list hx
    have hlen := r.length
    refine tail_any (ops := [.ref a, .ref s3.heap.objs.size]) ht.isList.typeIs (PySem.slot_list_getitem.lookup) ?_ (by with_unfolding_all rfl)
    refine wpAny_getItem_list_slice ht.isList (Heap.IsSliceOf.new _ (.int i t1) .none (.int k t2)) (.int i t1) .none (.int k t2) (by simp; omega) ?_ (by rw [List.size_toArray]; omega)
    rw [lst_pick (by omega)]
    refine ⟨.ref _, _, I5.laid (t' := s3.toks) (o := .lst (evr i k xs)) (fun b ob q => Heap.get?_push_of_some _ q) (Nat.le_refl _) ?_, rfl, q _ (I5.hok.fresh (Nat.le_refl _))⟩
    exact ⟨Nat.le_trans (evr_len xs i k) hz, _, 0, evr_vals i r, Heap.get?_push_size _ rfl⟩
  · obtain ⟨its, r, ht, hz⟩ := I5.tuple hx
    have hlen := r.length
    refine tail_any (ops := [.ref a, .ref s3.heap.objs.size]) ht.typeIs (PyProof.Rows.slot_tuple_getitem.lookup) ?_ (by with_unfolding_all rfl)
    refine tup_step ht (Heap.IsSliceOf.new _ (.int i t1) .none (.int k t2)) (.int i t1) .none (.int k t2) (by omega) (by omega) _ (tup_pick (by omega)) (by have := evr_len its i k; omega) ?_
    refine ⟨.ref _, _, I5.laid (t' := s3.toks) (o := .tup (evr i k xs)) (fun b ob q => Heap.get?_push_of_some _ q) (Nat.le_refl _) ?_, rfl, q _ (I5.hok.fresh (Nat.le_refl _))⟩
    exact ⟨Nat.le_trans (evr_len xs i k) hz, _, evr_vals i r, IsTup.new _ _⟩
/-- x[::-1], x a tuple -/
def tRevT (K : PySem.W.Frag) (te : TE) : TE := fun σ H Q => te σ H fun x H1 => ∃ a xs, x = .ref a ∧ SqT K H1 a xs ∧ ∀ p, H1 p = none → Q (.ref p) (upd H1 p (.tup xs.reverse))
theorem pe_revT {e : Expr} {te : TE} {k : Nat} {p1 p2 p3 pos : Pos} (he : PE X e te) : PE X (.Subscript e (.Slice none none (some (.UnaryOp .USub (.Constant (.int 1) k p1) p2)) p3) pos) (tRevT X.K te) := by
  refine ⟨fun pins s σ H Q I h => ?_⟩
  refine Subscript_ (thn (he.run pins s σ H _ I h) fun v s1 ⟨x, H1, I1, r1, a, xs, ex, hx, q⟩ => ?_)
  subst ex
  cases r1
  refine wpAny_Slice ?_
  rw [evalPart_none]
  refine wpAny_pure (wpAny_pure ?_)
  have one : PE X (.UnaryOp .USub (.Constant (.int 1) k p1) p2) (tUn (rU fun i => .int (-i)) (tC (.int 1))) := pe_un un_neg pe_int
  rw [evalPart_some]
  refine thn (one.run pins s1 σ H1 (fun o H4 => o = .int (-1) ∧ H4 = H1) I1 ⟨1, rfl, rfl, rfl⟩) fun vs s4 ⟨o, H4, I4, ps, eo, e4⟩ => ?_
  subst eo e4
  obtain ⟨t1, rfl⟩ := ps
  have I5 : Inv X pins σ H4 { s4 with heap := s4.heap.push { cls := .type "slice", data := .fields #[.none, .none, .int (-1) t1] } } := I4.kept (t' := s4.toks) fun b ob q => Heap.get?_push_of_some _ q
  obtain ⟨its, r, ht, hz⟩ := I5.tuple hx
  have hlen := r.length
  show wpAny (model X.prog X.w) X.A (subscriptTail e (.Slice none none (some (.UnaryOp .USub (.Constant (.int 1) k p1) p2)) p3) (.ref a) (.ref s4.heap.objs.size)) (EP X pins σ Q) X.xe { s4 with heap := s4.heap.push { cls := .type "slice", data := .fields #[.none, .none, .int (-1) t1] } }
  refine tail_any (ops := [.ref a, .ref s4.heap.objs.size]) ht.typeIs (PyProof.Rows.slot_tuple_getitem.lookup) ?_ (by with_unfolding_all rfl)
  refine tup_step ht (Heap.IsSliceOf.new _ .none .none (.int (-1) t1)) .none .none (.int (-1) t1) (by decide) (by decide) _ tup_rev (by rw [List.length_reverse]; omega) ?_
  refine ⟨.ref _, _, I5.laid (t' := s4.toks) (o := .tup xs.reverse) (fun b ob q => Heap.get?_push_of_some _ q) (Nat.le_refl _) ?_, rfl, q _ (I5.hok.fresh (Nat.le_refl _))⟩
  exact ⟨by rw [List.length_reverse]; exact hz, _, r.reverse, IsTup.new _ _⟩
end
end Jv

/-! ### tuples whose object is known: displays, sums; .index of a list or of such a tuple; repr of anything; calls where no text is under way -/
namespace Jv
open PySem PySem.Spec PyProof.Rows L2
/-- tuples of which is known that they have no dict of their own -/
def FzT (H : Hp) (t : Addr) : Prop := ∃ o u, H t = some (.frz o u) ∧ o.cls = .type "tuple" ∧ o.dict = none
theorem FzT.same {H H' : Hp} {t : Addr} (h : FzT H t) (s : Same H H') : FzT H' t := by
  obtain ⟨o, u, e, c⟩ := h
  exact ⟨o, u, s _ _ e, c⟩
section
variable {X : Cx} {es : List Expr} {t : TA} {pos : Pos}
def tTupF (t : TA) : TE := fun σ H Q => t σ H fun xs H1 => xs.length ≤ sizeLine ∧ ∀ p o, H1 p = none → o.cls = .type "tuple" → o.dict = none → Q (.ref p) (upd H1 p (.frz o (.tup xs)))
theorem pe_tupF {x1} (h : PA X es t) : PE X (.Tuple es x1 pos) (tTupF t) := by
  refine ⟨fun pins s σ H Q I hq => ?_⟩
  refine wpAny_Tuple_spliced (thn (h.run pos pins s σ H _ I hq) fun us s1 ⟨xs, H1, I1, r, z, q⟩ => ⟨by rw [← r.length]; exact z, ?_⟩)
  have at1 : (s1.heap.push ({ cls := .type "tuple", data := .seq us.toArray } : Obj)).get? s1.heap.objs.size = some { cls := .type "tuple", data := .seq us.toArray } := Heap.get?_push_size _ rfl
  have I2 : Inv X pins σ (upd H1 s1.heap.objs.size (.frz { cls := .type "tuple", data := .seq us.toArray } (.tup xs))) { s1 with heap := s1.heap.push { cls := .type "tuple", data := .seq us.toArray } } :=
    I1.laid (t' := s1.toks) (fun b o e => Heap.get?_push_of_some _ e) (Nat.le_refl _) (show ObjOk X.prog X.w _ _ _ (.frz _ (.tup xs)) from ⟨at1, z, us, r, IsTup.new _ _⟩)
  exact ⟨.ref s1.heap.objs.size, _, I2, rfl, q _ _ (I1.hok.fresh (Nat.le_refl _)) rfl rfl⟩
/-- t + u: one of them, or a new one -/
def rCatF (K : PySem.W.Frag) : R2 := fun x y H Q => ∃ a b xs ys, x = .ref a ∧ y = .ref b ∧ SqT K H a xs ∧ SqT K H b ys ∧ xs.length + ys.length ≤ sizeLine ∧
  (xs = [] → Q (.ref b) H) ∧ (xs ≠ [] → ys = [] → Q (.ref a) H) ∧ (xs ≠ [] → ys ≠ [] → ∀ p o, H p = none → o.cls = .type "tuple" → o.dict = none → Q (.ref p) (upd H p (.frz o (.tup (xs ++ ys)))))
theorem op_catF : OpR X (binaryOp .Add) (rCatF X.K) := by
  intro pins s σ H x y v u Q I rx ry h
  obtain ⟨a, b, xs, ys, rfl, rfl, ha, hb, hz, q0, q1, q2⟩ := h
  cases rx
  cases ry
  obtain ⟨its, r1, p1, _⟩ := I.tuple ha
  obtain ⟨its2, r2, p2, _⟩ := I.tuple hb
  by_cases hx : xs = []
  · subst hx
    cases r1
    exact cat_tup0 p1 p2 ⟨.ref b, H, I, rfl, q0 rfl⟩
  · refine HT.cat_tup p1 p2 (fun z => hx (r1.nil_iff.mp z)) (fun z => ⟨.ref a, H, I, rfl, q1 hx (r2.nil_iff.mp z)⟩) (fun z => ?_) (by rw [← r1.length, ← r2.length]; exact hz)
    have at1 : (s.heap.push ({ cls := .type "tuple", data := .seq (its ++ its2).toArray } : Obj)).get? s.heap.objs.size = some { cls := .type "tuple", data := .seq (its ++ its2).toArray } := Heap.get?_push_size _ rfl
    have I2 : Inv X pins σ (upd H s.heap.objs.size (.frz { cls := .type "tuple", data := .seq (its ++ its2).toArray } (.tup (xs ++ ys)))) { s with heap := s.heap.push { cls := .type "tuple", data := .seq (its ++ its2).toArray } } :=
      I.laid (t' := s.toks) (fun b o e => Heap.get?_push_of_some _ e) (Nat.le_refl _) (show ObjOk X.prog X.w _ _ _ (.frz _ (.tup _)) from ⟨at1, by rw [List.length_append]; exact hz, _, r1.append r2, IsTup.new _ _⟩)
    exact ⟨.ref s.heap.objs.size, _, I2, rfl, q2 hx (fun w => z (r2.nil_iff.mpr w)) _ _ (I.hok.fresh (Nat.le_refl _)) rfl rfl⟩
end
/-! ### .index -/
def rIdxT (K : PySem.W.Frag) : V → List V → Hp → VK → Prop := fun x xs H Q => ∃ (a : Addr) (ns : List Int) (z : Int) (j : Nat), x = V.ref a ∧ xs = [.int z] ∧ SqT K H a (ns.map V.int) ∧ ns[j]? = some z ∧ (∀ m, m < j → ns[m]? ≠ some z) ∧ Q (.int (j : Nat)) H
theorem eqV_ints {a b : Int} : eqV (.int a) (.int b) = decide (a = b) := by
  show (a == b) = _
  by_cases h : a = b
  · subst h; simp
  · simp [h]
theorem flatI (ns : List Int) : (ns.map V.int).all flatV = true := by
  rw [List.all_map, List.all_eq_true]; intro n _; rfl
section
variable {X : Cx}
theorem mt_idxT : MtR X "tuple.index" (rIdxT X.K) := by
  intro pins s σ H x xs v us Q I rx rs h
  obtain ⟨p, ns, z, j, rfl, rfl, hq, hy, hno, q⟩ := h
  cases rx
  obtain ⟨u, rfl, t, rfl⟩ := vals1 rs
  obtain ⟨its, r, ⟨⟨cls, dd, dt, sl⟩, ho, hc, n, hd⟩, hz⟩ := I.tuple hq
  simp only at hc hd
  subst hc hd
  have hl := r.length
  rw [List.length_map] at hl
  have hjn := (List.getElem?_eq_some_iff.mp hy).1
  have hj : j < its.toArray.size := by rw [List.size_toArray]; omega
  have at' : ∀ (m : Nat) (hm : m < its.toArray.size), ∃ y, ns[m]? = some y ∧ eqU (.int z) its.toArray[m] = decide (y = z) := fun m hm => by
    have hm' : m < ns.length := by rw [List.size_toArray] at hm; omega
    obtain ⟨w, hw, rw'⟩ := r.get (i := m) (x := .int ns[m]) (by simp [hm'])
    refine ⟨ns[m], List.getElem?_eq_getElem hm', ?_⟩
    have e := (List.getElem?_eq_some_iff.mp hw).2
    have e2 : its.toArray[m] = w := by simpa using e
    rw [e2, eqU_of rw' rfl, eqV_ints]
  refine call_meets PySem.F.slot_tuple_index ⟨_, ho, rfl⟩ PySem.F.entry_tuple_index (PySem.F.args_tuple_index_2 _ _) (TI.tuple_indexAt p its.toArray n dd sl (.int z t) (eqU (.int z)) j hj ?_ ?_)
    ⟨ho, fun w hw => mem_eqAt (x := .int z) ⟨t, rfl⟩ rfl r (flatI ns) w (by simpa using hw), ⟨.int (j : Nat), H, I.tok _, ⟨_, rfl⟩, q⟩⟩
  · obtain ⟨y, h1, h2⟩ := at' j hj
    rw [hy] at h1; cases h1
    rw [h2, decide_eq_true rfl]
  · intro m hm hmj
    obtain ⟨y, h1, h2⟩ := at' m hm
    rw [h2, decide_eq_false]; intro e; subst e; exact hno m hmj h1
/-- x.index(n), x a list or a tuple of whole numbers -/
def tIdx (K : PySem.W.Frag) (to ta : TE) : TE := fun σ H Q => to σ H fun x H1 => ta σ H1 fun y H2 => ∃ (a : Addr) (ns : List Int) (z : Int) (j : Nat), x = .ref a ∧ y = .int z ∧ H2 = H1 ∧ (SqL K H1 a (ns.map V.int) ∨ (SqT K H1 a (ns.map V.int) ∧ FzT H1 a)) ∧ ns[j]? = some z ∧ (∀ m, m < j → ns[m]? ≠ some z) ∧ Q (.int (j : Nat)) H2
theorem pe_idx {o : Expr} {to : TE} {apos cpos p1 : Pos} {x : Str} {i : Nat} (ho : PE X o to) (hN : X.N[i]? = some x) (hv : Vis X.env.scope x)
    (hbase : attributeBase o "index" X.env (eval o X.env) = eval o X.env := by rfl)
    (hfew : ((backTo cpos (starEach [.Name x p1] X.env)).all (fun x => !x.1) && (backToKw cpos (keywordEach [] X.env)).all (fun x => x.1.isSome)
      && decide ([Expr.Name x p1].length + ([] : List Keyword).length + (if ([] : List Keyword).isEmpty then 0 else 1) < 30)) = true := by rfl)
    (hline : (apos.endLine == cpos.line) = true := by rfl) (hs : starEach [.Name x p1] X.env = (false, eval (.Name x p1) X.env) :: starEach [] X.env := by rfl) (hd : (x == ("__debug__" : Str)) = false := by decide) (hcd : (x == ("__classdict__" : Str)) = false := by decide) :
    PE X (.Call (.Attribute o "index" apos) [.Name x p1] [] cpos) (tIdx X.K to (tVar i)) := by
  refine ⟨fun pins s σ H Q I h => ?_⟩
  refine wpAny_Call_method_late hbase hfew hline rfl (thn (ho.run pins s σ H _ I (show to σ H _ from h)) fun v s1 h9 => ?_)
  obtain ⟨w, H1, I1, r1, y, hσ, a, ns, z, j, ew, ey, _, hl, h1, h2, q⟩ := h9
  subst ew ey
  obtain rfl : v = Value.ref a := r1
  have args : ∀ {id : String}, MtR X id (fun x xs H Q => x = .ref a ∧ xs = [.int z] ∧ H = H1 ∧ Q (.int (j : Nat)) H) →
      wpAny (model X.prog X.w) X.A (callWith cpos (.builtin id) [.ref a] (backTo cpos (starEach [.Name x p1] X.env)) []) (EP X pins σ Q) X.xe s1 := fun {id} hm => by
    have hA := (pa_cons (pe_var (pos := p1) (i := i) hN hv hd hcd) pa_nil).run cpos pins s1 σ H1 (fun xs G => xs = [.int z] ∧ G = H1) I1 ⟨_, hσ, rfl, rfl⟩
    rw [hs] at hA ⊢
    refine Calls.callWith_builtin rfl (Calls.evalArgs_plain ?_)
    exact thn hA fun us s2 ⟨vs, H2, I2, r2, e1, e2⟩ => by
      subst e1 e2
      exact hm pins s2 σ H2 (.ref a) _ (.ref a) us Q I2 rfl r2 ⟨rfl, rfl, rfl, q⟩
  rcases hl with hl | ⟨hl, ob, u, hp, hc, hdn⟩
  · obtain ⟨its, rv, ⟨o2, n2, ho2, hc2, hd2, he2⟩, _⟩ := I1.list hl
    refine ⟨"list", "list.index", PySem.F.plainAttrs_list, PySem.F.slot_list_index, PySem.F.type_list_index, ⟨o2, ho2, hc2⟩, fun b e => by cases e; exact ⟨o2, ho2, hd2⟩, args ?_⟩
    intro pins s σ H x xs v us Q' I rx rs ⟨e1, e2, e3, qq⟩
    subst e1 e2 e3
    refine mt_index pins s σ H _ _ v us Q' I rx rs ⟨a, _, _, j, .int z, rfl, rfl, hl, rfl, flatI ns, by rw [List.getElem?_map, h1]; rfl, by rw [eqV_ints, decide_eq_true rfl], fun m z' hm e => ?_, qq⟩
    obtain ⟨n, hn, rfl⟩ := map_at e
    rw [eqV_ints, decide_eq_false]; intro e; subst e; exact h2 m hm hn
  · have hg : s1.heap.get? a = some ob := (I1.hok a _ hp).1
    refine ⟨"tuple", "tuple.index", PySem.F.plainAttrs_tuple, PySem.F.slot_tuple_index, PySem.F.type_tuple_index, ⟨ob, hg, hc⟩, fun b e => by cases e; exact ⟨ob, hg, hdn⟩, args ?_⟩
    intro pins s σ H x xs v us Q' I rx rs ⟨e1, e2, e3, qq⟩
    subst e1 e2 e3
    exact mt_idxT pins s σ H _ _ v us Q' I rx rs ⟨a, ns, z, j, rfl, rfl, hl, h1, h2, qq⟩
end

/-! ### repr of anything that the laws hand in -/
/-- a small dict of whole numbers -/
def dctD (kvs : List (Int × Int)) : PyData := .dict (kvs.map fun p => (.int p.1, .int p.2))
/-- data, or a dict of whole numbers -/
inductive Dw (K : PySem.W.Frag) (H : Hp) : V → PyData → Prop
  | dv {v : V} {d : PyData} : Dv K H v d → Dw K H v d
  | dct {a : Addr} {kvs : List (Int × Int)} : H a = some (.dK (kvs.map fun p => (.inl p.1, .int p.2))) → Dw K H (.ref a) (dctD kvs)
section
variable {K : PySem.W.Frag} {H H' : Hp} {v : V} {d : PyData} {Q : VK}
theorem Dw.same (h : Dw K H v d) (s : Same H H') : Dw K H' v d := by
  cases h with
  | dv h => exact .dv (h.same s)
  | dct h => exact .dct (s _ _ h)
theorem Dw.seq {ds : List PyData} (h : Dw K H v d) (e : seqD d = some ds) : Dv K H v d := by
  cases h with
  | dv h => exact h
  | dct h => cases e
theorem w_isS {p : Addr} (hp : H p = some (.tup [.ty "list", .ty "tuple"])) (h : Dw K H v d) (q : Q (.bl (seqD d).isSome) H) : rIsiT K [v, .ref p] H Q := by
  cases h with
  | dv h => exact d_isS hp h q
  | dct h => exact r_isS hp (.inr (.inr ⟨_, h⟩)) (by simp [sqOf, h]; exact q)
end
end Jv

/-! ### repr of anything that a law hands in; calls of defs that want no text under way -/
namespace Jv
open PySem PySem.Spec PyProof.Rows L2
/-- the text that repr gives -/
def shownW : PyData → Str
  | .none => "None"
  | .bool b => if b then "True" else "False"
  | .int i => toString i
  | .str s => reprText s
  | d => d.shown
/-- what it asks -/
def ShowOk : PyData → Prop
  | .none => True
  | .bool _ => True
  | .int i => i.natAbs.log2 < 1920
  | .str s => (reprText s).length ≤ sizeLine
  | d => d.showable = true ∧ d.depth ≤ 60 ∧ d.shown.length ≤ sizeLine
def rReprW (K : PySem.W.Frag) : List V → Hp → VK → Prop := fun xs H Q => ∃ v d, xs = [v] ∧ Dw K H v d ∧ (∀ ds, seqD d = some ds → d.canLay0 = true) ∧ ShowOk d ∧ Q (.str (shownW d)) H
section
variable {P : Program} {w : World} {h : Heap}
theorem pairs_ints : ∀ {kvs : List (Int × Int)} {es : List DictEntry} {vs : List (Key × Value)}, KV (kvs.map fun p => (Sum.inl p.1, V.int p.2)) vs → Pairs (mixKind P w) es vs →
    ∃ as bs, ReadsAll h (es.map (·.key)) (kvs.map fun p => PyData.int p.1) as ∧ ReadsAll h (es.map (·.val)) (kvs.map fun p => PyData.int p.2) bs ∧ as = [] ∧ bs = []
  | [], es, vs, a, b => by
    cases a
    cases b
    exact ⟨[], [], .nil, .nil, rfl, rfl⟩
  | p :: kvs, es, vs, a, b => by
    cases a with
    | cons a1 a2 =>
      cases b with
      | cons k1 k2 k3 =>
        rename_i kv _ e es
        obtain ⟨as, bs, r1, r2, rfl, rfl⟩ := pairs_ints a2 k3
        obtain ⟨c1, t2, c2⟩ := a1
        have c1' : (Sum.inl p.1 : Key) = kv.1 := c1
        have kk : keyIs (Sum.inl p.1) e.key = true := by rw [c1']; exact k1
        rcases keyIs_shape kk with ⟨i, t, e1, e2⟩ | ⟨x, t, e1, _⟩
        · cases e1
          have q1 : Reads h e.key (.int p.1) [] := by rw [e2]; exact .int _ t
          have q2 : Reads h e.val (.int p.2) [] := by rw [k2, c2]; exact .int _ t2
          exact ⟨[] ++ [], [] ++ [], .cons q1 r1, .cons q2 r2, rfl, rfl⟩
        · cases e1
end
section
variable {X : Cx} {pins : List (Addr × Obj)} {σ : L2.St} {H : Hp} {s : Shared}
theorem reads_dct {a : Addr} {kvs : List (Int × Int)} (I : Inv X pins σ H s) (h : H a = some (.dK (kvs.map fun p => (.inl p.1, .int p.2)))) : ∃ as, Reads s.heap (.ref a) (dctD kvs) as ∧ sysModules ∉ as := by
  obtain ⟨_, ns, vs, kv, o, es, ep, ho, ⟨oc, _, _⟩, od, _, pr, _⟩ := I.hok a _ h
  obtain ⟨as, bs, r1, r2, rfl, rfl⟩ := pairs_ints (h := s.heap) kv pr
  refine ⟨a :: [] ++ [], .dict ho oc od ?_ ?_, fun m => ?_⟩
  · rw [List.map_map]; exact r1
  · rw [List.map_map]; exact r2
  · simp only [List.append_nil, List.mem_singleton] at m
    rw [m] at ns; simp at ns
theorem call_reprW (hg : X.A.guards = some []) (hu : X.A.units + 64 < cLine) : CallR X (.builtin "repr") (rReprW X.K) := by
  intro pins s σ H xs us Q I r h
  obtain ⟨v, d, rfl, dw, cl, so, q⟩ := h
  obtain ⟨u, rfl, ru⟩ := r.one
  have fin : ∀ {a : Addr} {as : List Addr}, u = Value.ref a → Reads s.heap (.ref a) d as → (d.hasDict = true → sysModules ∉ as) → d.showable = true ∧ d.depth ≤ 60 ∧ d.shown.length ≤ sizeLine → shownW d = d.shown → wpAny (model X.prog X.w) X.A (call (.builtin "repr") [u]) (EP X pins σ Q) X.xe s := fun {a as} e rd ns ok es => by
    subst e
    obtain ⟨c3, c2, c4⟩ := ok
    refine repr_of_reads' rd c3 ns hg (by omega) (fun _ _ e => e) (fun h' u tk k => ?_) c4
    exact ⟨.str _, H, I.kept (t' := tk) k, ⟨u, rfl⟩, by rw [es] at q; exact q⟩
  cases dw with
  | dct hd =>
    obtain ⟨as, rd, ns⟩ := reads_dct I hd
    exact fin ru rd (fun _ => ns) so rfl
  | dv hd =>
    have hd2 := hd
    cases hd2 with
    | non =>
      cases (show u = Value.none from ru)
      exact PySem.P.repr_of_none ⟨.str _, H, I.tok _, ⟨_, rfl⟩, q⟩
    | bl b =>
      cases (show u = Value.bool b from ru)
      exact PySem.P.repr_of_bool ⟨.str _, H, I.tok _, ⟨_, rfl⟩, by cases b <;> exact q⟩
    | int i =>
      obtain ⟨t, rfl⟩ := ru
      exact PySem.P.repr_of_int so ⟨.str _, H, I.tok _, ⟨_, rfl⟩, q⟩
    | str z =>
      obtain ⟨t, rfl⟩ := ru
      exact PySem.P.repr_of_str ⟨.str _, H, I.tok _, ⟨_, rfl⟩, q⟩ so
    | lst h1 h2 =>
      cases (show u = Value.ref _ from ru)
      obtain ⟨as, rd⟩ := Dp.reads I _ _ _ hd.dp rfl
      exact fin rfl rd (fun z => by rw [PyData.hasDict_of_canLay _ (cl _ rfl)] at z; cases z) so rfl
    | tup h1 h2 =>
      cases (show u = Value.ref _ from ru)
      obtain ⟨as, rd⟩ := Dp.reads I _ _ _ hd.dp rfl
      exact fin rfl rd (fun z => by rw [PyData.hasDict_of_canLay _ (cl _ rfl)] at z; cases z) so rfl
end
section
variable {X : Cx} {CX : CXT} {k : Nat} {f : Addr} {fd : FuncData} {ps : List Str} {sp : Sp} {dvs : List V} {ds : List Value} {E : XK} {x : Str} {p pos : Pos} {e : Expr} {es : List Expr} {t : TA}
theorem run_fnG {pins : List (Addr × Obj)} {σ : L2.St} {H : Hp} {s : Shared} {Q : VK} {us : List Value} {vs : List V} (F : FnG X.prog X.w X.K X.mg X.base CX k f fd ps sp) (gd : X.A.guards = some []) (hr : Room k X.A) (hb : Binds X.K fd ps ds) (hd : Vals dvs ds) (hx : Passes CX X E)
    (I : Inv X pins σ H s) (r : Vals vs us) (h : sp (vs ++ dvs) H Q E) : wpAny (model X.prog X.w) X.A (call (.ref f) us) (EP X pins σ Q) X.xe s := by
  have r2 : Vals (vs ++ dvs) (us ++ ds) := r.append hd
  have hl : (us ++ ds).length = ps.length := by rw [← r2.length]; exact F.long _ _ _ _ h
  refine wpAny_call (codeAny_mono (F.goes X.A X.stack s H ⟨us, []⟩ (us ++ ds) (vs ++ dvs) Q E gd hr I.env0 (hb s us I.kIn hl) r2 h) fun r s' hq => ?_)
  cases r with
  | error e => exact hx pins σ H s e s' I hq
  | ok fl =>
    cases fl with
    | ret u => exact I.after hq
    | next => exact False.elim hq
    | brk => exact False.elim hq
    | cont => exact False.elim hq
theorem pe_callG (F : FnG X.prog X.w X.K X.mg X.base CX k f fd ps sp) (gd : X.A.guards = some []) (hr : Room k X.A) (hg : Gl X x) (hm : X.mg x = some (.ref f)) (hk : PySem.W.keepIn X.K (.ref f) = true) (hb : Binds X.K fd ps ds) (hd : Vals dvs ds) (hx : Passes CX X E)
    (ha : PA X (e :: es) t) (hdb : (x == ("__debug__" : Str)) = false := by decide) (he : starEach (e :: es) X.env = (false, eval e X.env) :: starEach es X.env := by rfl) (hpl : (backTo pos (starEach es X.env)).any (·.1) = false := by rfl) :
    PE X (.Call (.Name x p) (e :: es) [] pos) (tCall sp dvs E t) := by
  refine ⟨fun pins s σ H Q I h => ?_⟩
  refine wpAny_Call_Name_kw (ld_glob I hg hm ?_ hdb)
  refine PySem.W.callWith_K (h₀ := X.base) I.ok.mod.kin hk (thn (ha.run pos pins s σ H _ I h) fun us s1 ⟨vs, H1, I1, r, q⟩ => ⟨I1.kIn, ?_⟩) he hpl
  exact run_fnG F gd hr hb hd hx I1 r q
end
end Jv

/-! ### the walk through a reading -/
local macro_rules | `(tactic| walk_at "r1") => `(tactic| first
  | with_reducible refine Jv.r_seq ?_
  | with_reducible refine Jv.r_asg ?_
  | with_reducible refine Jv.r_gn ?_
  | with_reducible refine Jv.r_ret ?_
  | with_reducible refine Jv.r_retN ?_
  | with_reducible refine Jv.r_drop ?_
  | with_reducible refine Jv.r_if ?_
  | with_reducible refine Jv.r_next ?_
  | with_reducible refine Jv.r_brk ?_
  | with_reducible refine Jv.r_cont ?_
  | ((with_reducible refine' Jv.r_var ?hv ?_); (case hv => rfl))
  | with_reducible refine Jv.r_c ?_
  | with_reducible refine Jv.r_op ?_
  | with_reducible refine Jv.r_un ?_
  | with_reducible refine Jv.r_I0 ?_
  | with_reducible refine Jv.r_U ?_
  | ((with_reducible refine Jv.r_eq ?hs ?_); (case hs => rfl))
  | ((with_reducible refine Jv.r_ne ?hs ?_); (case hs => rfl))
  | with_reducible refine Jv.r_test ?_
  | with_reducible refine Jv.r_B ?_
  | with_reducible refine Jv.r_bl ?_
  | with_reducible refine Jv.r_and ?_
  | with_reducible refine Jv.r_or ?_
  | with_reducible refine Jv.r_not ?_
  | with_reducible refine Jv.r_andV ?_
  | with_reducible refine Jv.r_orV ?_
  | with_reducible refine Jv.r_notV ?_
  | with_reducible refine Jv.r_ife ?_
  | with_reducible refine Jv.r_chain ?_
  | with_reducible refine Jv.r_nil ?_
  | with_reducible refine Jv.r_cons ?_
  | with_reducible refine Jv.r_tup ?_
  | with_reducible refine Jv.r_lst ?_
  | with_reducible refine Jv.r_CB ?_
  | with_reducible refine Jv.r_call ?_
  | with_reducible refine Jv.r_callS ?_
  | with_reducible refine Jv.r_for ?_
  | with_reducible refine Jv.r_iR1 ?_
  | with_reducible refine Jv.r_iR2 ?_
  | with_reducible refine Jv.r_sub ?_
  | with_reducible refine Jv.r_int ?_)
local macro_rules | `(tactic| walk_at "r") => `(tactic| (repeat walk_at "r1"))

local macro_rules | `(tactic| walk_at "cond") => `(tactic| first
  | exact Or.inr ⟨by decide, by decide⟩
  | exact Or.inl ⟨by decide, by decide⟩
  | exact ⟨by decide, by decide⟩
  | exact ⟨by assumption, by assumption⟩
  | exact ⟨by decide, by decide, by decide⟩
  | (show (0 : Int) < _; first | decide | omega)
  | exact Jv.cdivS (by omega) (by omega)
  | exact Or.inr ⟨by omega, by omega⟩
  | exact Or.inl ⟨by omega, by omega⟩)
local macro_rules | `(tactic| walk_at "r1") => `(tactic| ((with_reducible refine Jv.r_I ?hc ?_); (case hc => walk_at "cond")))

local macro_rules | `(tactic| walk_at "ne") => `(tactic| first
  | assumption
  | exact Ne.symm (by assumption)
  | exact L2.ne_of_none (by walk_at "hp") (by assumption)
  | exact Ne.symm (L2.ne_of_none (by walk_at "hp") (by assumption)))
local macro_rules | `(tactic| walk_at "hp") => `(tactic| first
  | assumption
  | exact L2.upd_same
  | ((refine' Jv.kp ?hp1 ?hp2); (case hp2 => assumption); (case hp1 => walk_at "hp"))
  | ((refine' Jv.kpO ?hp1 ?hp2); (case hp1 => walk_at "hp"); (case hp2 => walk_at "ne")))
local macro_rules | `(tactic| walk_at "sq") => `(tactic| first
  | assumption
  | ((refine' Jv.sqT_at ?sq1); (case sq1 => walk_at "hp"))
  | ((refine' Jv.sqL_at ?sq1); (case sq1 => walk_at "hp"))
  | ((refine' Jv.sqT_new ?sq1 ?sq2); (case sq2 => assumption); (case sq1 => walk_at "sq"))
  | ((refine' Jv.sqL_new ?sq1 ?sq2); (case sq2 => assumption); (case sq1 => walk_at "sq"))
  | ((refine' L2.Same.seq ?sq1 ?sq2); (case sq1 => assumption); (case sq2 => assumption))
  | ((refine' Jv.Same.sqT ?sq1 ?sq2); (case sq1 => assumption); (case sq2 => assumption)))
local macro_rules | `(tactic| walk_at "r1") => `(tactic| first
  | ((with_reducible refine' Jv.r_gtup ?hq ?hl ?_); (case hq => walk_at "sq"); (case hl => rfl))
  | with_reducible refine Jv.r_gcons ?_
  | with_reducible refine Jv.r_gnil ?_
  | with_reducible refine Jv.r_iEn ?_
  | with_reducible refine Jv.r_iL ?_
  | with_reducible refine Jv.r_iT ?_
  | with_reducible refine Jv.r_yes ?_
  | with_reducible refine Jv.r_ift ?_
  | with_reducible refine Jv.r_iff ?_
  | ((with_reducible refine' Jv.r_new ?hn ?_); (case hn => exact Nat.le_of_ble_eq_true rfl))
  | ((with_reducible refine' Jv.r_wipe ?he ?_); (case he => rfl)))
local macro_rules | `(tactic| walk_at "len") => `(tactic| first
  | exact Or.inl (by walk_at "sq")
  | exact Or.inr (by walk_at "sq"))
local macro_rules | `(tactic| walk_at "r1") => `(tactic| first
  | ((with_reducible refine' Jv.r_ixL ?hs ?he ?_); (case hs => walk_at "sq"); (case he => rfl))
  | ((with_reducible refine' Jv.r_ixT ?hs ?he ?_); (case hs => walk_at "sq"); (case he => rfl))
  | ((with_reducible refine' Jv.r_setL ?hs ?he ?_); (case hs => walk_at "hp"); (case he => rfl))
  | ((with_reducible refine' Jv.r_len ?hs ?_); (case hs => walk_at "len")))
local macro_rules | `(tactic| walk_at "th") => `(tactic| first
  | assumption
  | exact Jv.Th.same (by assumption) (by assumption)
  | exact Jv.Th.same (by assumption) (Jv.same_new (by assumption))
  | exact trivial)
local macro_rules | `(tactic| walk_at "r1") => `(tactic| first
  | ((with_reducible refine' Jv.r_isB ?hx ?_); (case hx => walk_at "th"))
  | ((with_reducible refine' Jv.r_isI ?hx ?_); (case hx => walk_at "th"))
  | ((with_reducible refine' Jv.r_isS ?hp ?hx ?_); (case hp => walk_at "hp"); (case hx => walk_at "th"))
  | ((with_reducible refine' Jv.r_false ?he ?_); (case he => rfl))
  | ((with_reducible refine' Jv.r_true ?he ?_); (case he => rfl))
  | with_reducible refine Jv.r_rfl ?_)
local macro_rules | `(tactic| walk_at "r2") => `(tactic| first
  | walk_at "r1"
  | ((with_reducible refine' Jv.r_dec1 ?hd ?_); (case hd => omega))
  | ((with_reducible refine' Jv.r_dec0 ?hd ?_); (case hd => omega))
  | with_reducible refine Jv.r_decI (fun _ => ?_) (fun _ => ?_)
  | with_reducible refine Jv.r_ndecI (fun _ => ?_) (fun _ => ?_)
  | with_reducible refine Jv.r_dec (fun _ => ?_) (fun _ => ?_)
  | with_reducible refine Jv.r_ndec (fun _ => ?_) (fun _ => ?_))
local macro_rules | `(tactic| walk_at "rr") => `(tactic| (repeat' walk_at "r2"))
local macro_rules | `(tactic| walk_at "r1") => `(tactic| first
  | with_reducible refine Jv.r_min ?_
  | with_reducible refine Jv.r_max ?_
  | with_reducible refine Jv.r_absN ?_
  | with_reducible refine Jv.r_intN ?_)
local macro_rules | `(tactic| walk_at "r1") => `(tactic| first
  | with_reducible refine Jv.r_bm ?_
  | ((with_reducible refine' Jv.r_tyL ?hp ?_); (case hp => walk_at "hp")))

local macro_rules | `(tactic| walk_at "r1") => `(tactic| first
  | with_reducible refine Jv.r_callN ?_
  | with_reducible refine Jv.r_disp1 ?_
  | with_reducible refine Jv.r_same ?_)

local macro_rules | `(tactic| walk_at "dv") => `(tactic| first
  | assumption
  | exact Jv.Dv.same (by assumption) (by assumption)
  | exact Jv.Dv.same (Jv.same_new (by assumption)) (by assumption)
  | exact Jv.Dv.int _
  | exact Jv.Dv.non
  | exact Jv.Dv.bl _)
local macro_rules | `(tactic| walk_at "r1") => `(tactic| first
  | ((with_reducible refine' Jv.d_isB ?hx ?_); (case hx => walk_at "dv"))
  | ((with_reducible refine' Jv.d_isI ?hx ?_); (case hx => walk_at "dv"))
  | ((with_reducible refine' Jv.d_isS ?hp ?hx ?_); (case hp => walk_at "hp"); (case hx => walk_at "dv")))

namespace K09
open PySem PySem.Spec PyProof.Rows L2
def topS (i : Nat) : Stmt := PySem.Challenge.pw_risingcalls_k09_whole_rows_made_and_aske.main.body.getD i (.Pass ⟨0, 0, 0, 0⟩)
abbrev s_is_whole : Stmt := topS 5
abbrev s_is_sequence : Stmt := topS 6
abbrev s_is_row : Stmt := topS 8
abbrev s_check_row : Stmt := topS 9
abbrev s_standing_at : Stmt := topS 10
abbrev s_end_at : Stmt := topS 11
abbrev s_is_ended : Stmt := topS 12
abbrev s_speaker_at : Stmt := topS 13
abbrev s_words_of : Stmt := topS 14
abbrev s_foe_words_of : Stmt := topS 15
abbrev s_next_words : Stmt := topS 16
abbrev s_may_be_said : Stmt := topS 17
abbrev s_all_foe_words : Stmt := topS 18
abbrev s_Lmix : Stmt := topS 20
abbrev s_Lhand : Stmt := topS 21
abbrev s_Ldraw : Stmt := topS 22
abbrev s_Lpick : Stmt := topS 23
abbrev s_Lwhole : Stmt := topS 24
abbrev s_Lis : Stmt := topS 25
abbrev s_Lover : Stmt := topS 26
abbrev s_Lturn : Stmt := topS 27
abbrev s_Lnexts : Stmt := topS 28
abbrev s_Lend : Stmt := topS 29
abbrev s_Lfoe_rows : Stmt := topS 30
abbrev s_Lis_row : Stmt := topS 31
abbrev s_Lrefused : Stmt := topS 32
abbrev s_Lasked : Stmt := topS 33
abbrev s_Lsmall : Stmt := topS 34
abbrev s_Lrow : Stmt := topS 35
abbrev s_Lspoilt : Stmt := topS 36
abbrev s_law : Stmt := topS 37
theorem sc_is_whole : FnScope ["thing", "low", "high"] ["thing", "low", "high"] (defScope s_is_whole) := ⟨rfl, rfl, rfl, by decide +kernel, rfl, by decide +kernel, by decide +kernel⟩
theorem sc_is_sequence : FnScope ["thing"] ["thing"] (defScope s_is_sequence) := ⟨rfl, rfl, rfl, by decide +kernel, rfl, by decide +kernel, by decide +kernel⟩
theorem sc_is_row : FnScope ["row", "ladder", "foes", "standing", "place", "word"] ["row", "ladder", "foes"] (defScope s_is_row) := ⟨rfl, rfl, rfl, by decide +kernel, rfl, by decide +kernel, by decide +kernel⟩
theorem sc_check_row : FnScope ["row", "ladder", "foes"] ["row", "ladder", "foes"] (defScope s_check_row) := ⟨rfl, rfl, rfl, by decide +kernel, rfl, by decide +kernel, by decide +kernel⟩
theorem sc_standing_at : FnScope ["row"] ["row"] (defScope s_standing_at) := ⟨rfl, rfl, rfl, by decide +kernel, rfl, by decide +kernel, by decide +kernel⟩
theorem sc_end_at : FnScope ["row", "foes", "standing"] ["row", "foes"] (defScope s_end_at) := ⟨rfl, rfl, rfl, by decide +kernel, rfl, by decide +kernel, by decide +kernel⟩
theorem sc_is_ended : FnScope ["row", "foes"] ["row", "foes"] (defScope s_is_ended) := ⟨rfl, rfl, rfl, by decide +kernel, rfl, by decide +kernel, by decide +kernel⟩
theorem sc_speaker_at : FnScope ["row", "foes"] ["row", "foes"] (defScope s_speaker_at) := ⟨rfl, rfl, rfl, by decide +kernel, rfl, by decide +kernel, by decide +kernel⟩
theorem sc_words_of : FnScope ["row", "foes", "side"] ["row", "foes", "side"] (defScope s_words_of) := ⟨rfl, rfl, rfl, by decide +kernel, rfl, by decide +kernel, by decide +kernel⟩
theorem sc_foe_words_of : FnScope ["row"] ["row"] (defScope s_foe_words_of) := ⟨rfl, rfl, rfl, by decide +kernel, rfl, by decide +kernel, by decide +kernel⟩
theorem sc_next_words : FnScope ["ladder", "standing"] ["ladder", "standing"] (defScope s_next_words) := ⟨rfl, rfl, rfl, by decide +kernel, rfl, by decide +kernel, by decide +kernel⟩
theorem sc_may_be_said : FnScope ["word", "ladder", "standing"] ["word", "ladder", "standing"] (defScope s_may_be_said) := ⟨rfl, rfl, rfl, by decide +kernel, rfl, by decide +kernel, by decide +kernel⟩
theorem sc_all_foe_words : GScope ["ladder", "rows", "_", "row", "word"] ["ladder"] (defScope s_all_foe_words) := ⟨rfl, rfl, rfl, by decide +kernel, rfl, by decide +kernel, by decide +kernel⟩
theorem sc_Lmix : FnScope ["_law_number", "_law_turn_here", "_law_once", "_law_twice"] ["_law_number", "_law_turn_here"] (defScope s_Lmix) := ⟨rfl, rfl, rfl, by decide +kernel, rfl, by decide +kernel, by decide +kernel⟩
theorem sc_Lhand : FnScope ["_law_script", "_law_total", "_law_k", "_law_cell"] ["_law_script"] (defScope s_Lhand) := ⟨rfl, rfl, rfl, by decide +kernel, rfl, by decide +kernel, by decide +kernel⟩
theorem sc_Ldraw : FnScope ["_law_hand_here", "_law_many", "_law_cell", "_law_rest"] ["_law_hand_here", "_law_many"] (defScope s_Ldraw) := ⟨rfl, rfl, rfl, by decide +kernel, rfl, by decide +kernel, by decide +kernel⟩
theorem sc_Lpick : FnScope ["_law_hand_here", "_law_things"] ["_law_hand_here", "_law_things"] (defScope s_Lpick) := ⟨rfl, rfl, rfl, by decide +kernel, rfl, by decide +kernel, by decide +kernel⟩
theorem sc_Lwhole : FnScope ["_law_thing"] ["_law_thing"] (defScope s_Lwhole) := ⟨rfl, rfl, rfl, by decide +kernel, rfl, by decide +kernel, by decide +kernel⟩
theorem sc_Lis : FnScope ["_law_told", "_law_due"] ["_law_told", "_law_due"] (defScope s_Lis) := ⟨rfl, rfl, rfl, by decide +kernel, rfl, by decide +kernel, by decide +kernel⟩
theorem sc_Lover : FnScope ["_law_row_here", "_law_foes"] ["_law_row_here", "_law_foes"] (defScope s_Lover) := ⟨rfl, rfl, rfl, by decide +kernel, rfl, by decide +kernel, by decide +kernel⟩
theorem sc_Lturn : FnScope ["_law_row_here", "_law_foes"] ["_law_row_here", "_law_foes"] (defScope s_Lturn) := ⟨rfl, rfl, rfl, by decide +kernel, rfl, by decide +kernel, by decide +kernel⟩
theorem sc_Lnexts : FnScope ["_law_ladder", "_law_row_here"] ["_law_ladder", "_law_row_here"] (defScope s_Lnexts) := ⟨rfl, rfl, rfl, by decide +kernel, rfl, by decide +kernel, by decide +kernel⟩
theorem sc_Lend : FnScope ["_law_row_here", "_law_foes", "_law_top"] ["_law_row_here", "_law_foes"] (defScope s_Lend) := ⟨rfl, rfl, rfl, by decide +kernel, rfl, by decide +kernel, by decide +kernel⟩
theorem sc_Lfoe_rows : FnScope ["_law_ladder", "_law_found", "_law_level", "_law_turn_here", "_law_following", "_law_told", "_law_word"] ["_law_ladder"] (defScope s_Lfoe_rows) := ⟨rfl, rfl, rfl, by decide +kernel, rfl, by decide +kernel, by decide +kernel⟩
theorem sc_Lis_row : FnScope ["_law_thing", "_law_ladder", "_law_foes", "_law_at"] ["_law_thing", "_law_ladder", "_law_foes"] (defScope s_Lis_row) := ⟨rfl, rfl, rfl, by decide +kernel, rfl, by decide +kernel, by decide +kernel⟩
theorem sc_Lrefused : FnScope ["_law_row_here", "_law_ladder", "_law_foes", "_law_word", "e"] ["_law_row_here", "_law_ladder", "_law_foes"] (defScope s_Lrefused) := ⟨rfl, rfl, rfl, by decide +kernel, rfl, by decide +kernel, by decide +kernel⟩
theorem sc_Lasked : FnScope ["_law_thing", "_law_ladder", "_law_foes", "_law_due", "_law_kept", "_law_row_here", "_law_told", "_law_numbers", "_law_side", "_law_sides", "_law_at", "_law_place", "_law_parts", "_law_one"] ["_law_thing", "_law_ladder", "_law_foes"] (defScope s_Lasked) := ⟨rfl, rfl, rfl, by decide +kernel, rfl, by decide +kernel, by decide +kernel⟩
theorem sc_Lsmall : FnScope ["_law_ladder", "_law_foes", "_law_level", "_law_size", "_law_thing", "_law_following", "_law_word"] ["_law_ladder", "_law_foes"] (defScope s_Lsmall) := ⟨rfl, rfl, rfl, by decide +kernel, rfl, by decide +kernel, by decide +kernel⟩
theorem sc_Lrow : FnScope ["_law_hand_here", "_law_ladder", "_law_foes", "_law_row_here", "_law_far", "_law_small_here", "_law_turn_here", "_law_words"] ["_law_hand_here", "_law_ladder", "_law_foes"] (defScope s_Lrow) := ⟨rfl, rfl, rfl, by decide +kernel, rfl, by decide +kernel, by decide +kernel⟩
theorem sc_Lspoilt : FnScope ["_law_hand_here", "_law_row_here", "_law_ladder", "_law_odd", "_law_choice", "_law_place"] ["_law_hand_here", "_law_row_here", "_law_ladder"] (defScope s_Lspoilt) := ⟨rfl, rfl, rfl, by decide +kernel, rfl, by decide +kernel, by decide +kernel⟩
theorem sc_law : FnScope ["_law_script", "_law_hand_here", "_law_turn_here", "_law_ladder", "_law_foes", "_law_row_here", "_law_thing", "_law_told", "_law_one"] ["_law_script"] (defScope s_law) := ⟨rfl, rfl, rfl, by decide +kernel, rfl, by decide +kernel, by decide +kernel⟩
structure Tx where
  f_is_whole : Addr
  d_is_whole : FuncData
  f_is_sequence : Addr
  d_is_sequence : FuncData
  f_is_row : Addr
  d_is_row : FuncData
  f_check_row : Addr
  d_check_row : FuncData
  f_standing_at : Addr
  d_standing_at : FuncData
  f_end_at : Addr
  d_end_at : FuncData
  f_is_ended : Addr
  d_is_ended : FuncData
  f_speaker_at : Addr
  d_speaker_at : FuncData
  f_words_of : Addr
  d_words_of : FuncData
  f_foe_words_of : Addr
  d_foe_words_of : FuncData
  f_next_words : Addr
  d_next_words : FuncData
  f_may_be_said : Addr
  d_may_be_said : FuncData
  f_all_foe_words : Addr
  d_all_foe_words : FuncData
  f_Lmix : Addr
  d_Lmix : FuncData
  f_Lhand : Addr
  d_Lhand : FuncData
  f_Ldraw : Addr
  d_Ldraw : FuncData
  f_Lpick : Addr
  d_Lpick : FuncData
  f_Lwhole : Addr
  d_Lwhole : FuncData
  f_Lis : Addr
  d_Lis : FuncData
  f_Lover : Addr
  d_Lover : FuncData
  f_Lturn : Addr
  d_Lturn : FuncData
  f_Lnexts : Addr
  d_Lnexts : FuncData
  f_Lend : Addr
  d_Lend : FuncData
  f_Lfoe_rows : Addr
  d_Lfoe_rows : FuncData
  f_Lis_row : Addr
  d_Lis_row : FuncData
  f_Lrefused : Addr
  d_Lrefused : FuncData
  f_Lasked : Addr
  d_Lasked : FuncData
  f_Lsmall : Addr
  d_Lsmall : FuncData
  f_Lrow : Addr
  d_Lrow : FuncData
  f_Lspoilt : Addr
  d_Lspoilt : FuncData
  f_law : Addr
  d_law : FuncData
  C_CallError : Addr
  C_BadRow : Addr
  t_STOP : Tok
  e1_is_whole : List Value
  e2_is_whole : List Value
structure Ok (K : PySem.W.Frag) (mg : Str → Option Value) (T : Tx) : Prop where
  F_is_whole : FunD K "is_whole" "is_whole" (defArgs s_is_whole) (defBody s_is_whole) (defScope s_is_whole) [.non, .non] [] T.f_is_whole T.d_is_whole
  m_is_whole : mg "is_whole" = some (.ref T.f_is_whole)
  b_is_whole : Binds K T.d_is_whole ["thing", "low", "high"] []
  b1_is_whole : Vals [.non] T.e1_is_whole ∧ Binds K T.d_is_whole ["thing", "low", "high"] T.e1_is_whole
  b2_is_whole : Vals [.non, .non] T.e2_is_whole ∧ Binds K T.d_is_whole ["thing", "low", "high"] T.e2_is_whole
  F_is_sequence : Fun K "is_sequence" "is_sequence" s_is_sequence T.f_is_sequence T.d_is_sequence
  m_is_sequence : mg "is_sequence" = some (.ref T.f_is_sequence)
  b_is_sequence : Binds K T.d_is_sequence ["thing"] []
  F_is_row : Fun K "is_row" "is_row" s_is_row T.f_is_row T.d_is_row
  m_is_row : mg "is_row" = some (.ref T.f_is_row)
  b_is_row : Binds K T.d_is_row ["row", "ladder", "foes"] []
  F_check_row : Fun K "check_row" "check_row" s_check_row T.f_check_row T.d_check_row
  m_check_row : mg "check_row" = some (.ref T.f_check_row)
  b_check_row : Binds K T.d_check_row ["row", "ladder", "foes"] []
  F_standing_at : Fun K "standing_at" "standing_at" s_standing_at T.f_standing_at T.d_standing_at
  m_standing_at : mg "standing_at" = some (.ref T.f_standing_at)
  b_standing_at : Binds K T.d_standing_at ["row"] []
  F_end_at : Fun K "end_at" "end_at" s_end_at T.f_end_at T.d_end_at
  m_end_at : mg "end_at" = some (.ref T.f_end_at)
  b_end_at : Binds K T.d_end_at ["row", "foes"] []
  F_is_ended : Fun K "is_ended" "is_ended" s_is_ended T.f_is_ended T.d_is_ended
  m_is_ended : mg "is_ended" = some (.ref T.f_is_ended)
  b_is_ended : Binds K T.d_is_ended ["row", "foes"] []
  F_speaker_at : Fun K "speaker_at" "speaker_at" s_speaker_at T.f_speaker_at T.d_speaker_at
  m_speaker_at : mg "speaker_at" = some (.ref T.f_speaker_at)
  b_speaker_at : Binds K T.d_speaker_at ["row", "foes"] []
  F_words_of : Fun K "words_of" "words_of" s_words_of T.f_words_of T.d_words_of
  m_words_of : mg "words_of" = some (.ref T.f_words_of)
  b_words_of : Binds K T.d_words_of ["row", "foes", "side"] []
  F_foe_words_of : Fun K "foe_words_of" "foe_words_of" s_foe_words_of T.f_foe_words_of T.d_foe_words_of
  m_foe_words_of : mg "foe_words_of" = some (.ref T.f_foe_words_of)
  b_foe_words_of : Binds K T.d_foe_words_of ["row"] []
  F_next_words : Fun K "next_words" "next_words" s_next_words T.f_next_words T.d_next_words
  m_next_words : mg "next_words" = some (.ref T.f_next_words)
  b_next_words : Binds K T.d_next_words ["ladder", "standing"] []
  F_may_be_said : Fun K "may_be_said" "may_be_said" s_may_be_said T.f_may_be_said T.d_may_be_said
  m_may_be_said : mg "may_be_said" = some (.ref T.f_may_be_said)
  b_may_be_said : Binds K T.d_may_be_said ["word", "ladder", "standing"] []
  F_all_foe_words : Fun K "all_foe_words" "all_foe_words" s_all_foe_words T.f_all_foe_words T.d_all_foe_words
  m_all_foe_words : mg "all_foe_words" = some (.ref T.f_all_foe_words)
  b_all_foe_words : Binds K T.d_all_foe_words ["ladder"] []
  F_Lmix : Fun K "_law_mix" "_law_mix" s_Lmix T.f_Lmix T.d_Lmix
  m_Lmix : mg "_law_mix" = some (.ref T.f_Lmix)
  b_Lmix : Binds K T.d_Lmix ["_law_number", "_law_turn_here"] []
  F_Lhand : Fun K "_law_hand" "_law_hand" s_Lhand T.f_Lhand T.d_Lhand
  m_Lhand : mg "_law_hand" = some (.ref T.f_Lhand)
  b_Lhand : Binds K T.d_Lhand ["_law_script"] []
  F_Ldraw : Fun K "_law_draw" "_law_draw" s_Ldraw T.f_Ldraw T.d_Ldraw
  m_Ldraw : mg "_law_draw" = some (.ref T.f_Ldraw)
  b_Ldraw : Binds K T.d_Ldraw ["_law_hand_here", "_law_many"] []
  F_Lpick : Fun K "_law_pick" "_law_pick" s_Lpick T.f_Lpick T.d_Lpick
  m_Lpick : mg "_law_pick" = some (.ref T.f_Lpick)
  b_Lpick : Binds K T.d_Lpick ["_law_hand_here", "_law_things"] []
  F_Lwhole : Fun K "_law_whole" "_law_whole" s_Lwhole T.f_Lwhole T.d_Lwhole
  m_Lwhole : mg "_law_whole" = some (.ref T.f_Lwhole)
  b_Lwhole : Binds K T.d_Lwhole ["_law_thing"] []
  F_Lis : Fun K "_law_is" "_law_is" s_Lis T.f_Lis T.d_Lis
  m_Lis : mg "_law_is" = some (.ref T.f_Lis)
  b_Lis : Binds K T.d_Lis ["_law_told", "_law_due"] []
  F_Lover : Fun K "_law_over" "_law_over" s_Lover T.f_Lover T.d_Lover
  m_Lover : mg "_law_over" = some (.ref T.f_Lover)
  b_Lover : Binds K T.d_Lover ["_law_row_here", "_law_foes"] []
  F_Lturn : Fun K "_law_turn" "_law_turn" s_Lturn T.f_Lturn T.d_Lturn
  m_Lturn : mg "_law_turn" = some (.ref T.f_Lturn)
  b_Lturn : Binds K T.d_Lturn ["_law_row_here", "_law_foes"] []
  F_Lnexts : Fun K "_law_nexts" "_law_nexts" s_Lnexts T.f_Lnexts T.d_Lnexts
  m_Lnexts : mg "_law_nexts" = some (.ref T.f_Lnexts)
  b_Lnexts : Binds K T.d_Lnexts ["_law_ladder", "_law_row_here"] []
  F_Lend : Fun K "_law_end" "_law_end" s_Lend T.f_Lend T.d_Lend
  m_Lend : mg "_law_end" = some (.ref T.f_Lend)
  b_Lend : Binds K T.d_Lend ["_law_row_here", "_law_foes"] []
  F_Lfoe_rows : Fun K "_law_foe_rows" "_law_foe_rows" s_Lfoe_rows T.f_Lfoe_rows T.d_Lfoe_rows
  m_Lfoe_rows : mg "_law_foe_rows" = some (.ref T.f_Lfoe_rows)
  b_Lfoe_rows : Binds K T.d_Lfoe_rows ["_law_ladder"] []
  F_Lis_row : Fun K "_law_is_row" "_law_is_row" s_Lis_row T.f_Lis_row T.d_Lis_row
  m_Lis_row : mg "_law_is_row" = some (.ref T.f_Lis_row)
  b_Lis_row : Binds K T.d_Lis_row ["_law_thing", "_law_ladder", "_law_foes"] []
  F_Lrefused : Fun K "_law_refused" "_law_refused" s_Lrefused T.f_Lrefused T.d_Lrefused
  m_Lrefused : mg "_law_refused" = some (.ref T.f_Lrefused)
  b_Lrefused : Binds K T.d_Lrefused ["_law_row_here", "_law_ladder", "_law_foes"] []
  F_Lasked : Fun K "_law_asked" "_law_asked" s_Lasked T.f_Lasked T.d_Lasked
  m_Lasked : mg "_law_asked" = some (.ref T.f_Lasked)
  b_Lasked : Binds K T.d_Lasked ["_law_thing", "_law_ladder", "_law_foes"] []
  F_Lsmall : Fun K "_law_small" "_law_small" s_Lsmall T.f_Lsmall T.d_Lsmall
  m_Lsmall : mg "_law_small" = some (.ref T.f_Lsmall)
  b_Lsmall : Binds K T.d_Lsmall ["_law_ladder", "_law_foes"] []
  F_Lrow : Fun K "_law_row" "_law_row" s_Lrow T.f_Lrow T.d_Lrow
  m_Lrow : mg "_law_row" = some (.ref T.f_Lrow)
  b_Lrow : Binds K T.d_Lrow ["_law_hand_here", "_law_ladder", "_law_foes"] []
  F_Lspoilt : Fun K "_law_spoilt" "_law_spoilt" s_Lspoilt T.f_Lspoilt T.d_Lspoilt
  m_Lspoilt : mg "_law_spoilt" = some (.ref T.f_Lspoilt)
  b_Lspoilt : Binds K T.d_Lspoilt ["_law_hand_here", "_law_row_here", "_law_ladder"] []
  F_law : Fun K "law" "law" s_law T.f_law T.d_law
  m_law : mg "law" = some (.ref T.f_law)
  b_law : Binds K T.d_law ["_law_script"] []
  m_CallError : mg "CallError" = some (.ref T.C_CallError)
  e_CallError : Jv.ExcP K T.C_CallError
  m_BadRow : mg "BadRow" = some (.ref T.C_BadRow)
  e_BadRow : Jv.ExcP K T.C_BadRow
  z_ValueError : mg "ValueError" = none
  z_abs : mg "abs" = none
  z_bool : mg "bool" = none
  z_enumerate : mg "enumerate" = none
  z_int : mg "int" = none
  z_isinstance : mg "isinstance" = none
  z_len : mg "len" = none
  z_list : mg "list" = none
  z_max : mg "max" = none
  z_range : mg "range" = none
  z_repr : mg "repr" = none
  z_tuple : mg "tuple" = none
  c_STOP : mg "STOP" = some (.int (0) T.t_STOP)
  i_BadRow_ga : PySem.W.findIn K (.ref T.C_BadRow) "__getattribute__" = some (some (.builtin "BaseException.__getattribute__"))
  i_BadRow_gg : PySem.W.findIn K (.ref T.C_BadRow) "__getattr__" = some none
  i_BadRow_ca : PySem.W.findIn K (.ref T.C_BadRow) "__class__" = some (some (.builtin "object.__class__"))
  i_BadRow_sp : PySem.W.specialIn K (.builtin "object.__class__") "__get__" = some (some (.builtin "getset_descriptor.__get__"))
  i_BadRow_tk : PySem.W.takesIn K (.builtin "object.__class__") = some true
  i_BadRow_mr : PySem.W.mroIn K T.C_BadRow (.type "object") = some true
  i_BadRow_xc : PySem.W.kitOne K (.ref T.C_BadRow) (.ref T.C_CallError) = some true
  i_BadRow_xv : PySem.W.kitOne K (.ref T.C_BadRow) (.type "ValueError") = some true
end K09

namespace K09
open PySem PySem.Spec PyProof.Rows L2
/-! ### the law's draws: any number below the bound may come -/
def sp_Lmix : Sp := fun vs H Q _ => ∃ n t : Int, vs = [.int n, .int t] ∧ (0 ≤ n ∧ n < 2147483648 ∧ 0 ≤ t ∧ t ≤ 1000) ∧ ∀ r : Int, 0 ≤ r → r < 134217728 → Q (.int r) H
theorem mix_end (z : Int) : 0 ≤ z % 2147483399 / 32 ∧ z % 2147483399 / 32 < 134217728 := by omega
section
variable {P : Program} {w : World} {K : PySem.W.Frag} {mg : Str → Option Value} {base : Heap}
theorem ok_Lmix (T : Tx) (O : Ok K mg T) : FnOk P w K mg base CX0 1 T.f_Lmix T.d_Lmix ["_law_number", "_law_turn_here"] sp_Lmix := by
  refine O.F_Lmix.ok sc_Lmix (fun vs H Q E h => by obtain ⟨n, t, rfl, _⟩ := h; rfl) (fun cdv A outer s H vs Q E hr h => ?_)
  obtain ⟨n, t, rfl, ⟨h1, h2, h3, h4⟩, q⟩ := h
  refine ⟨_, (pss_cons (ps_set (i := 2) sc_Lmix.nd rfl (Or.inl rfl) (pe_op op_mod (pe_callTy (r := Jv.rInt) Jv.cr_int (by rfl) O.z_int (by decide +kernel) (pa_cons (pe_op op_add (pe_op op_add (pe_op op_mul (pv 0) pe_int) (pe_op op_mul (pv 1) pe_int)) pe_int) pa_nil)) pe_int))
  (pss_cons (ps_set (i := 3) sc_Lmix.nd rfl (Or.inl rfl) (pe_op op_mod (pe_callTy (r := Jv.rInt) Jv.cr_int (by rfl) O.z_int (by decide +kernel) (pa_cons (pe_op op_add (pe_op op_add (pe_op op_mul (pv 2) (pv 2)) (pe_op op_mul (pe_op op_fdivW (pv 2) pe_int) pe_int)) (pe_op op_mul (pv 1) pe_int)) pa_nil)) pe_int))
  (pss_one (ps_ret (pe_op op_fdivW (pe_op op_mod (pe_callTy (r := Jv.rInt) Jv.cr_int (by rfl) O.z_int (by decide +kernel) (pa_cons (pe_op op_add (pe_op op_fdivW (pe_op op_mul (pv 3) (pv 3)) pe_int) (pv 2)) pa_nil)) pe_int) pe_int))))), ?_⟩
  walk_at "r"
  exact q _ (mix_end _).1 (mix_end _).2
end
end K09

namespace Jv
open PySem PySem.Spec PyProof.Rows L2
/-! ### the hand: numbers still to be used, a place, a rest, a total -/
structure HandAt (H : Hp) (p l : Addr) (ns : List Int) (k c t : Int) : Prop where
  hp : H p = some (.lst [.ref l, .int k, .int c, .int t])
  hl : H l = some (.lst (ns.map V.int))
  nn : ∀ n ∈ ns, 0 ≤ n
  few : ns.length ≤ 63
  bd : 0 ≤ k ∧ k ≤ ns.length ∧ 0 ≤ c ∧ 0 ≤ t ∧ t < 2147483629
def Hand (H : Hp) (p l : Addr) : Prop := ∃ ns k c t, HandAt H p l ns k c t
theorem HandAt.ne {H : Hp} {p l : Addr} {ns : List Int} {k c t : Int} (h : HandAt H p l ns k c t) : l ≠ p := fun e => by
  have q := h.hp
  rw [← e, h.hl] at q
  have q2 := HO.lst.inj (Option.some.inj q)
  cases ns with
  | nil => cases q2
  | cons a r => cases q2
/-- all but what stands at p is as it was -/
def Kp (p : Addr) (H H' : Hp) : Prop := ∀ b o, b ≠ p → H b = some o → H' b = some o
theorem Kp.refl {p : Addr} {H : Hp} : Kp p H H := fun _ _ _ e => e
theorem Kp.trans {p : Addr} {H H1 H2 : Hp} (a : Kp p H H1) (b : Kp p H1 H2) : Kp p H H2 := fun c o n e => b c o n (a c o n e)
theorem Kp.same {p : Addr} {H H' : Hp} (a : Same H H') : Kp p H H' := fun c o _ e => a c o e
theorem Kp.upd {p : Addr} {H : Hp} {o : HO} : Kp p H (upd H p o) := fun c u n e => by rw [upd_ne n]; exact e
theorem Kp.new {p q : Addr} {H : Hp} {o : HO} (n : H q = none) : Kp p H (L2.upd H q o) := Kp.same (same_new n)
theorem Hand.same {H H' : Hp} {p l : Addr} (h : Hand H p l) (s : Same H H') : Hand H' p l := by
  obtain ⟨ns, k, c, t, h⟩ := h
  exact ⟨ns, k, c, t, s _ _ h.hp, s _ _ h.hl, h.nn, h.few, h.bd⟩
theorem Hand.at {H : Hp} {p l : Addr} (h : Hand H p l) : ∃ o, H p = some o := by
  obtain ⟨ns, k, c, t, h⟩ := h
  exact ⟨_, h.hp⟩
theorem Hand.set {H : Hp} {p l : Addr} {ns : List Int} {k c t k' c' t' : Int} (h : HandAt H p l ns k c t) (b : 0 ≤ k' ∧ k' ≤ ns.length ∧ 0 ≤ c' ∧ 0 ≤ t' ∧ t' < 2147483629) :
    HandAt (upd H p (.lst [.ref l, .int k', .int c', .int t'])) p l ns k' c' t' :=
  ⟨upd_same, by rw [upd_ne h.ne]; exact h.hl, h.nn, h.few, b⟩
end Jv
namespace K09
open PySem PySem.Spec PyProof.Rows L2
def sp_Lhand (K : PySem.W.Frag) : Sp := fun vs H Q _ => ∃ (a : Addr) (ns : List Int), vs = [.ref a] ∧ SqL K H a (ns.map V.int) ∧ ns.length ≤ 63 ∧ ∀ p l H', Same H H' → H p = none → Jv.Hand H' p l → Q (.ref p) H'
section
variable {P : Program} {w : World} {K : PySem.W.Frag} {mg : Str → Option Value} {base : Heap}
theorem ok_Lhand (T : Tx) (O : Ok K mg T) : FnOk P w K mg base CX0 1 T.f_Lhand T.d_Lhand ["_law_script"] (sp_Lhand K) := by
  refine O.F_Lhand.ok sc_Lhand (fun vs H Q E h => by obtain ⟨a, ns, rfl, _⟩ := h; rfl) (fun cdv A outer s H vs Q E hr h => ?_)
  obtain ⟨a, ns, rfl, hS, few, q⟩ := h
  refine ⟨_, (pss_cons (ps_set (i := 1) sc_Lhand.nd rfl (Or.inl rfl) pe_int)
  (pss_cons (ps_for PassesOwn.never rfl (show PI _ _ _ (iEnum K _) from pi_enum (by rfl) O.z_enumerate (pa_cons (pv 0) pa_nil)) (pg_tup rfl (pgs_cons (pg_name (i := 2) sc_Lhand.nd rfl (Or.inl rfl)) (pgs_cons (pg_name (i := 3) sc_Lhand.nd rfl (Or.inl rfl)) pgs_nil))) (pss_one (ps_set (i := 1) sc_Lhand.nd rfl (Or.inl rfl) (pe_op op_mod (pe_callTy (r := Jv.rInt) Jv.cr_int (by rfl) O.z_int (by decide +kernel) (pa_cons (pe_op op_add (pe_op op_mul (pv 1) pe_int) (pe_op op_mul (pe_callTy (r := Jv.rInt) Jv.cr_int (by rfl) O.z_int (by decide +kernel) (pa_cons (pv 3) pa_nil)) (pe_op op_add (pv 2) pe_int))) pa_nil)) pe_int))))
  (pss_one (ps_ret (pe_lst (pa_cons (pe_lc (own := [("_law_cell", 3)]) (by rfl) sc_Lhand.nd (show PI _ _ _ (iList K _) from pi_list (pv 0)) (blkOk_by (own := [("_law_cell", 3)]) (N := ["_law_script", "_law_total", "_law_k", "_law_cell"]) (sc := defScope s_Lhand) (scope := ({ kind := .function, names := [(".0", .local), ("_law_cell", .local), ("abs", .globalImplicit), ("int", .globalImplicit)], isGenerator := false, isCoroutine := false } : Scope)) (by decide +kernel)) (fun _ _ _ _ _ => (pg_name (i := 3) sc_Lhand.nd rfl (Or.inl rfl))) (fun _ _ _ _ _ => pts_nil) (fun _ _ _ _ _ => (pe_callB (r := Jv.rAbs) Jv.cr_abs (by rfl) O.z_abs (by decide +kernel) (pa_cons (pe_callTy (r := Jv.rInt) Jv.cr_int (by rfl) O.z_int (by decide +kernel) (pa_cons (pv 3) pa_nil)) pa_nil)))) (pa_cons pe_int (pa_cons pe_int (pa_cons (pv 1) pa_nil))))))))), ?_⟩
  walk_at "r"
  refine ⟨_, _, rfl, hS, ?_⟩
  refine for_it (walk_enum (K := K) (a := a) (xs := ns.map V.int)) (fun i σ H' => ∃ y2 y3 tot, σ = [some (.ref a), some (.int tot), y2, y3] ∧ (0 ≤ tot ∧ tot < 2147483629) ∧ Same H H') ⟨_, _, 5, rfl, by decide, fun _ _ e => e⟩ (fun i σ H' _ ⟨_, _, _, _, _, sm⟩ => sm.seq hS) ?_ ?_
  · rintro i x σ H1 H2 hi ⟨y2, y3, tot, rfl, hb, sm⟩ ⟨p, x1, x2, rfl, hp, rfl, hx, hy⟩
    cases hx
    obtain ⟨z, hz, rfl⟩ := Jv.map_at (show (ns.map V.int)[i]? = some x2 from hy)
    rw [List.length_map] at hi
    walk_at "r"
    exact ⟨_, _, _, rfl, by omega, sm.trans (Jv.same_new hp)⟩
  · rintro σ H' ⟨y2, y3, tot, rfl, hb, sm⟩
    walk_at "r"
    refine ⟨_, rfl, _, rfl, ⟨_, sm.seq hS⟩, fun p hp => ?_⟩
    refine lc_it (walk_list (K := K) (a := a) (xs := ns.map V.int)) (fun i H1 => ∃ zs : List Int, Same H H1 ∧ H1 p = some (.lst (zs.map V.int)) ∧ zs.length = i ∧ ∀ z ∈ zs, 0 ≤ z) ⟨[], sm.trans (Jv.same_new hp), upd_same, rfl, by simp⟩ (fun i H1 _ ⟨_, s1, _⟩ => s1.seq hS) ?_ ?_
    · rintro i x H1 H2 hi ⟨zs, s1, e1, hl, nn⟩ ⟨rfl, hx⟩
      obtain ⟨z, hz, rfl⟩ := Jv.map_at hx
      rw [List.length_map] at hi
      walk_at "r"
      refine ⟨zs.map V.int, e1, ?_, zs ++ [if z < 0 then -z else z], ?_, ?_, ?_, ?_⟩
      · rw [List.length_map, hl]; exact Jv.small_lt (by omega)
      · intro b o e; exact Jv.kpO (s1 b o e) (ne_of_none (sm b o e) hp)
      · rw [upd_same, List.map_append]; rfl
      · rw [List.length_append, hl]; rfl
      · intro y hy
        rcases List.mem_append.mp hy with hy | hy
        · exact nn y hy
        · rw [List.mem_singleton.mp hy]; split <;> omega
    · rintro H1 ⟨zs, s1, e1, hl, nn⟩
      walk_at "r"
      intro p2 hp2
      rw [List.length_map] at hl
      exact q p2 p _ (s1.trans (Jv.same_new hp2)) (s1.free hp2) ⟨zs, 0, 0, tot, upd_same, Jv.kp e1 hp2, nn, by omega, by omega⟩
end
end K09

namespace K09
open PySem PySem.Spec PyProof.Rows L2
def sp_Ldraw : Sp := fun vs H Q _ => ∃ (p l : Addr) (m : Int), vs = [.ref p, .int m] ∧ Jv.Hand H p l ∧ (0 < m ∧ m.natAbs.log2 < 9000) ∧ ∀ r H', 0 ≤ r → r < m → Jv.Kp p H H' → Jv.Hand H' p l → Q (.int r) H'
section
variable {P : Program} {w : World} {K : PySem.W.Frag} {mg : Str → Option Value} {base : Heap}
theorem ok_Ldraw (T : Tx) (O : Ok K mg T) : FnOk P w K mg base CX0 2 T.f_Ldraw T.d_Ldraw ["_law_hand_here", "_law_many"] sp_Ldraw := by
  refine O.F_Ldraw.ok sc_Ldraw (fun vs H Q E h => by obtain ⟨_, _, _, rfl, _⟩ := h; rfl) (fun cdv A outer s H vs Q E hr h => ?_)
  obtain ⟨p, l, m, rfl, ⟨ns, k, c, t, hA⟩, ⟨m0, m1⟩, q⟩ := h
  obtain ⟨hp, hl, nn, few, b1, b2, b3, b4, b5⟩ := id hA
  have nlp := hA.ne
  have e0 : ∀ z : Int, 0 ≤ z % m := fun z => Int.emod_nonneg _ (by omega)
  have e1 : ∀ z : Int, z % m < m := fun z => Int.emod_lt_of_pos _ m0
  refine ⟨_, (C8.pss_cut (ps_if (PW.pt (pw_and (pt_cmpR op_eq (pe_ix (r := rIxL K) ix_list (pv 0) pe_int (fun _ _ => rfl)) pe_int (nomark _)) (pw_and1 (pt_cmpR op_lt (pe_ix (r := rIxL K) ix_list (pv 0) pe_int (fun _ _ => rfl)) (pe_callB (r := Jv.rLenK K) Jv.cr_len (by rfl) O.z_len (by decide +kernel) (pa_cons (pe_ix (r := rIxL K) ix_list (pv 0) pe_int (fun _ _ => rfl)) pa_nil)) (nomark _))))) (pss_cons (ps_set (i := 2) sc_Ldraw.nd rfl (Or.inl rfl) (pe_ix (r := rIxL K) ix_list (pe_ix (r := rIxL K) ix_list (pv 0) pe_int (fun _ _ => rfl)) (pe_ix (r := rIxL K) ix_list (pv 0) pe_int (fun _ _ => rfl)) (fun _ _ => rfl)))
  (pss_cons (ps_asg (pe_op op_add (pe_ix (r := rIxL K) ix_list (pv 0) pe_int (fun _ _ => rfl)) pe_int) (pg_sub (pv 0) pe_int set_list))
  (pss_cons (ps_if (pt_cmpR op_lt (pv 2) (pe_op op_pow pe_int pe_int) (nomark _)) (pss_one (ps_ret (pe_op op_mod (pe_callTy (r := Jv.rInt) Jv.cr_int (by rfl) O.z_int (by decide +kernel) (pa_cons (pe_call (ok_Lmix T O) (hr.mono (by decide)) (by rfl) O.m_Lmix O.F_Lmix.kp O.b_Lmix .nil pass0 (pa_cons (pe_op op_mod (pe_callTy (r := Jv.rInt) Jv.cr_int (by rfl) O.z_int (by decide +kernel) (pa_cons (pv 2) pa_nil)) pe_int) (pa_cons (pe_ix (r := rIxL K) ix_list (pv 0) pe_int (fun _ _ => rfl)) pa_nil))) pa_nil)) (pv 1)))) pss_nil)
  (pss_one (ps_asg (pv 2) (pg_sub (pv 0) pe_int set_list)))))) pss_nil)
  (pss_cons (ps_if (pt_cmpR op_gt (pe_ix (r := rIxL K) ix_list (pv 0) pe_int (fun _ _ => rfl)) pe_int (nomark _)) (pss_cons (ps_set (i := 3) sc_Ldraw.nd rfl (Or.inl rfl) (pe_ix (r := rIxL K) ix_list (pv 0) pe_int (fun _ _ => rfl)))
  (pss_cons (ps_asg (pe_op op_fdivW (pv 3) (pv 1)) (pg_sub (pv 0) pe_int set_list))
  (pss_one (ps_ret (pe_op op_mod (pe_callTy (r := Jv.rInt) Jv.cr_int (by rfl) O.z_int (by decide +kernel) (pa_cons (pv 3) pa_nil)) (pv 1)))))) pss_nil)
  (pss_cons (ps_asg (pe_op op_mod (pe_callTy (r := Jv.rInt) Jv.cr_int (by rfl) O.z_int (by decide +kernel) (pa_cons (pe_op op_add (pe_op op_mul (pe_ix (r := rIxL K) ix_list (pv 0) pe_int (fun _ _ => rfl)) pe_int) pe_int) pa_nil)) pe_int) (pg_sub (pv 0) pe_int set_list))
  (pss_one (ps_ret (pe_op op_mod (pe_callTy (r := Jv.rInt) Jv.cr_int (by rfl) O.z_int (by decide +kernel) (pa_cons (pe_call (ok_Lmix T O) (hr.mono (by decide)) (by rfl) O.m_Lmix O.F_Lmix.kp O.b_Lmix .nil pass0 (pa_cons (pe_ix (r := rIxL K) ix_list (pv 0) pe_int (fun _ _ => rfl)) (pa_cons (pe_ix (r := rIxL K) ix_list (pv 0) pe_int (fun _ _ => rfl)) pa_nil))) pa_nil)) (pv 1))))))), ?_⟩
  refine ⟨fun σ' H' => ∃ k c t y2 y3, σ' = [some (.ref p), some (.int m), y2, y3] ∧ Jv.HandAt H' p l ns k c t ∧ Jv.Kp p H H', ?_, ?_⟩
  · walk_at "r"
    refine Jv.r_decI (fun hc => ?_) (fun hc => ?_)
    · walk_at "r"
      refine Jv.r_dec (fun hk => ?_) (fun hk => ?_)
      · rw [List.length_map] at hk
        have hk2 : k.toNat < ns.length := by omega
        have at1 : atI (ns.map V.int) k = some (.int ns[k.toNat]) := Jv.at_i b1 (Jv.map_get hk2)
        have n0 := nn ns[k.toNat] (List.getElem_mem _)
        generalize ns[k.toNat] = z at at1 n0
        walk_at "r"
        refine' Jv.r_ixL ?hs at1 ?_
        case hs => walk_at "sq"
        walk_at "r"
        refine Jv.r_dec (fun hz => ?_) (fun hz => ?_)
        · walk_at "r"
          refine ⟨_, _, rfl, ⟨by omega, by omega, by omega, by omega⟩, fun r h1 h2 => ?_⟩
          walk_at "r"
          exact q _ _ (e0 _) (e1 _) Jv.Kp.upd ⟨_, _, _, _, Jv.Hand.set hA ⟨by omega, by omega, b3, b4, b5⟩⟩
        · walk_at "r"
          exact ⟨k + 1, z, t, _, _, rfl, Jv.Hand.set (Jv.Hand.set hA ⟨by omega, by omega, b3, b4, b5⟩) ⟨by omega, by omega, n0, b4, b5⟩, Jv.Kp.upd.trans Jv.Kp.upd⟩
      · walk_at "r"
        exact ⟨k, c, t, _, _, rfl, hA, Jv.Kp.refl⟩
    · walk_at "r"
      exact ⟨k, c, t, _, _, rfl, hA, Jv.Kp.refl⟩
  · rintro σ' H' ⟨k, c, t, y2, y3, rfl, hB, kp⟩
    obtain ⟨hp, hl, nn, few, b1, b2, b3, b4, b5⟩ := id hB
    walk_at "r"
    refine Jv.r_dec (fun hc => ?_) (fun hc => ?_)
    · walk_at "r"
      refine q _ _ (e0 _) (e1 _) (kp.trans Jv.Kp.upd) ⟨_, _, _, _, Jv.Hand.set hB ⟨b1, b2, Int.ediv_nonneg b3 (by omega), b4, b5⟩⟩
    · walk_at "r"
      refine ⟨_, _, rfl, ⟨by omega, by omega, b1, by omega⟩, fun r h1 h2 => ?_⟩
      walk_at "r"
      exact q _ _ (e0 _) (e1 _) (kp.trans Jv.Kp.upd) ⟨_, _, _, _, Jv.Hand.set hB ⟨b1, b2, b3, by omega, by omega⟩⟩
end
end K09

namespace Jv
open PySem PySem.Spec PyProof.Rows L2
theorem at_neg {xs : List V} {k : Nat} {v : V} (h0 : 1 ≤ k) (h1 : k ≤ xs.length) (h : xs[xs.length - k]? = some v) : atI xs (-(k : Int)) = some v := by
  unfold atI ixN
  rw [if_neg (by omega), if_pos (by omega)]
  show xs[(-(k : Int) + (xs.length : Int)).toNat]? = some v
  rw [show (-(k : Int) + (xs.length : Int)).toNat = xs.length - k by omega]; exact h
theorem decI {a b : Int} : decide (V.int a = V.int b) = decide (a = b) := decide_eq_decide.mpr ⟨V.int.inj, fun h => by rw [h]⟩
theorem topI_snoc {ns : List Int} {w : Int} : topI (ns ++ [w]) = max (topI ns) w := by unfold topI; rw [List.foldl_append]; rfl
theorem foldl_ge : ∀ (ns : List Int) (a : Int), a ≤ ns.foldl max a ∧ ∀ n ∈ ns, n ≤ ns.foldl max a
  | [], a => ⟨Int.le_refl _, fun _ m => by cases m⟩
  | x :: r, a => by
    obtain ⟨h1, h2⟩ := foldl_ge r (max a x)
    rw [List.foldl_cons]
    refine ⟨by omega, fun n m => ?_⟩
    rcases List.mem_cons.mp m with rfl | m
    · omega
    · exact h2 n m
theorem foldl_mem : ∀ (ns : List Int) (a : Int), ns.foldl max a = a ∨ ns.foldl max a ∈ ns
  | [], a => .inl rfl
  | x :: r, a => by
    rw [List.foldl_cons]
    rcases foldl_mem r (max a x) with h | h
    · rw [h]
      by_cases c : a ≤ x
      · right; rw [Int.max_eq_right c]; exact List.mem_cons_self
      · left; omega
    · exact .inr (List.mem_cons_of_mem _ h)
theorem topI_0 {ns : List Int} : 0 ≤ topI ns := (foldl_ge ns 0).1
theorem topI_ge {ns : List Int} {n : Int} (m : n ∈ ns) : n ≤ topI ns := (foldl_ge ns 0).2 n m
theorem topI_mem {ns : List Int} (h : 0 < topI ns) : topI ns ∈ ns := (foldl_mem ns 0).resolve_left fun e => by unfold topI at h; omega
theorem topI_le {ns : List Int} {L : Int} (h0 : 0 ≤ L) (h : ∀ n ∈ ns, n ≤ L) : topI ns ≤ L := by
  rcases foldl_mem ns 0 with e | m
  · unfold topI; omega
  · exact h _ m
theorem r_CKw {r : List V → List V → Hp → VK → Prop} {t tk : TA} {σ : L2.St} {H : Hp} {Q : VK} (h : t σ H fun vs H1 => tk σ H1 fun zs H2 => r vs zs H2 Q) : tCKw r t tk σ H Q := h
theorem r_evr {K : PySem.W.Frag} {te ti tk : TE} {σ : L2.St} {H : Hp} {Q : VK} (h : te σ H fun x H1 => ti σ H1 fun y H2 => tk σ H2 fun z H3 => ∃ i k : Nat, y = .int i ∧ z = .int k ∧ rEvr K x i k H3 Q) : tEvr K te ti tk σ H Q := h
theorem Sk.evr {K : PySem.W.Frag} {H : Hp} {Q : VK} {x : V} {xs : List V} {i k : Nat} (h : Sk K H x xs) (hk : 2 ≤ k) (q : ∀ p H', Same H H' → Sk K H' (.ref p) (Jv.evr i k xs) → Q (.ref p) H') : rEvr K x i k H Q := by
  obtain ⟨a, rfl, h | h⟩ := h
  · exact ⟨a, xs, rfl, hk, .inl ⟨h, fun p hp => q p _ (same_new hp) ⟨p, rfl, .inl (sqL_at upd_same)⟩⟩⟩
  · exact ⟨a, xs, rfl, hk, .inr ⟨h, fun p hp => q p _ (same_new hp) ⟨p, rfl, .inr (sqT_at upd_same)⟩⟩⟩
theorem r_tupRg2 {ta tb : TE} {σ : L2.St} {H : Hp} {Q : VK} (h : ta σ H fun x H1 => tb σ H1 fun y H2 => ∃ i j, x = .int i ∧ y = .int j ∧ RgOk i j ∧ ∀ q, H2 q = none → Q (.ref q) (upd H2 q (.tup (rgV i j)))) : tTupRg (tRg2 ta tb) σ H Q := h
theorem r_lstRg2 {ta tb : TE} {σ : L2.St} {H : Hp} {Q : VK} (h : ta σ H fun x H1 => tb σ H1 fun y H2 => ∃ i j, x = .int i ∧ y = .int j ∧ RgOk i j ∧ ∀ q, H2 q = none → Q (.ref q) (upd H2 q (.lst (rgV i j)))) : tLstRg (tRg2 ta tb) σ H Q := h
/-- the first place of a number -/
def firstI (a : Int) : List Int → Nat
  | [] => 0
  | x :: r => if x = a then 0 else firstI a r + 1
theorem firstI_at {a : Int} : ∀ {ns : List Int}, a ∈ ns → ns[firstI a ns]? = some a
  | [], m => by cases m
  | x :: r, m => by
    unfold firstI
    by_cases h : x = a
    · rw [if_pos h, h]; rfl
    · rw [if_neg h]
      rcases List.mem_cons.mp m with e | m
      · exact absurd e.symm h
      · exact firstI_at m
theorem firstI_no {a : Int} : ∀ {ns : List Int} {m : Nat}, m < firstI a ns → ns[m]? ≠ some a
  | [], m, h => by cases h
  | x :: r, m, h => by
    unfold firstI at h
    by_cases e : x = a
    · rw [if_pos e] at h; omega
    · rw [if_neg e] at h
      cases m with
      | zero => intro z; exact e (Option.some.inj z)
      | succ m => exact firstI_no (ns := r) (by omega)
theorem sl_pre {K : PySem.W.Frag} {H : Hp} {x : V} {xs : List V} {j : Nat} {Q : VK} (h : Jv.Sk K H x xs) (q : ∀ r H', Same H H' → Sk K H' (.ref r) (xs.take j) → Q (.ref r) H') :
    rSlL K x none (some (j : Int)) H Q ∨ rSlA K x none (some (j : Int)) H Q := by
  have e : cutV xs none (some (j : Int)) = xs.take j := by
    unfold cutV
    rw [HT.sIx_none, HT.sIx_nat, List.drop_zero, Nat.sub_zero, ← List.take_take, List.take_length]
  obtain ⟨a, rfl, h | h⟩ := h
  · exact .inl ⟨a, xs, rfl, h, fun p hp => q p _ (Jv.same_new hp) ⟨p, rfl, .inl (Jv.sqL_at (by rw [upd_same, e]))⟩⟩
  · refine .inr ⟨a, xs, rfl, h, fun hw => q a _ (Same.refl _) ⟨a, rfl, .inr ?_⟩, fun _ p hp => q p _ (Jv.same_new hp) ⟨p, rfl, .inr (Jv.sqT_at (by rw [upd_same, e]))⟩⟩
    have h2 := hw.2
    rw [HT.sIx_nat] at h2
    rw [List.take_of_length_le (by omega)]; exact h
theorem Sk.list {K : PySem.W.Frag} {H : Hp} {Q : VK} {x : V} {xs : List V} (h : Sk K H x xs) (q : ∀ l H', H l = none → Same H H' → H' l = some (.lst xs) → Q (.ref l) H') : rListOf K [x] H Q := by
  obtain ⟨a, rfl, h⟩ := h
  exact ⟨a, xs, rfl, h, fun l hl => q l _ hl (same_new hl) upd_same⟩
theorem r_cat {H : Hp} {Q : VK} {a b : Addr} {xs ys : List V} (h1 : H a = some (.lst xs)) (h2 : H b = some (.lst ys)) (few : xs.length + ys.length ≤ sizeLine) (q : ∀ p H', H p = none → Same H H' → H' p = some (.lst (xs ++ ys)) → Q (.ref p) H') : rCat (.ref a) (.ref b) H Q :=
  ⟨a, b, xs, ys, rfl, rfl, h1, h2, few, fun p hp => q p _ hp (same_new hp) upd_same⟩
theorem max_at {ns : List Int} {m : Int} (h1 : m ∈ 0 :: ns) (h2 : ∀ y ∈ 0 :: ns, y ≤ m) : m = topI ns := by
  have h0 := h2 0 List.mem_cons_self
  refine (foldl_max ns 0 m ?_ h0 fun y hy => h2 y (List.mem_cons_of_mem _ hy)).symm
  rcases List.mem_cons.mp h1 with h | h
  · exact .inl h
  · exact .inr h
/-- max([0] + ..) -/
theorem maxL {K : PySem.W.Frag} {H : Hp} {Q : VK} {a : Addr} {ns : List Int} (e : H a = some (.lst (.int 0 :: ns.map V.int))) (q : Q (.int (topI ns)) H) : rMax K [.ref a] H Q :=
  ⟨a, 0 :: ns, rfl, sqL_at e, Nat.zero_lt_succ _, fun m h1 h2 => by rw [max_at h1 h2]; exact q⟩
/-- x[:k] of two names -/
theorem r_slTo {r : V → Option Int → Option Int → Hp → VK → Prop} {σ : L2.St} {H : Hp} {Q : VK} {i j : Nat} {x : V} {k : Int} (hx : σ[j]? = some (some x)) (hv : σ[i]? = some (some (.int k))) (h : r x none (some k) H Q) : tSl r (tVar j) tNoPart (tPart (tVar i)) σ H Q :=
  ⟨x, hx, _, hv, k, rfl, h⟩
theorem r_slFrom {r : V → Option Int → Option Int → Hp → VK → Prop} {σ : L2.St} {H : Hp} {Q : VK} {i j : Nat} {x : V} {k : Int} (hx : σ[j]? = some (some x)) (hv : σ[i]? = some (some (.int k))) (h : r x (some k) none H Q) : tSl r (tVar j) (tPart (tVar i)) tNoPart σ H Q :=
  ⟨x, hx, _, hv, k, rfl, h⟩
theorem dv_take {K : PySem.W.Frag} {H : Hp} : ∀ {vs : List V} {ds : List PyData} (n : Nat), Jv.DvAll K H vs ds → Jv.DvAll K H (vs.take n) (ds.take n)
  | _, _, 0, _ => by simp; exact .nil
  | _, _, n + 1, .nil => .nil
  | _, _, n + 1, .cons a b => .cons a (dv_take n b)
theorem inV_ints {z : Int} : ∀ {ns : List Int}, inV (.int z) (ns.map V.int) = decide (z ∈ ns)
  | [] => by simp [inV]
  | a :: r => by
    have ih := inV_ints (z := z) (ns := r)
    unfold inV at ih ⊢
    rw [List.map_cons, List.any_cons, ih, eqV_ints]
    by_cases h : a = z
    · subst h; simp
    · have h2 : ¬ z = a := fun e => h e.symm
      simp [h, h2]
end Jv
namespace K09
open PySem PySem.Spec PyProof.Rows L2
/-! ### rows: what is asked of them -/
def overI (f : Bool) (ns : List Int) : Bool := decide (0 < ns.length) && (decide (ns[ns.length - 1]? = some 0) && (!f || (decide (ns.length % 2 = 0) && decide (ns[ns.length - 2]? = some 0))))
def okW (L st : Int) : PyData → Bool
  | .int w => (decide (0 ≤ w) && decide (w ≤ L)) && (decide (w = 0) || decide (st < w))
  | _ => false
theorem okW_eq {L st w : Int} : okW L st (.int w) = ((decide (0 ≤ w) && decide (w ≤ L)) && (decide (w = 0) || decide (st < w))) := rfl
/-- from words that are right, on -/
def rowFrom (L : Int) (f : Bool) : List Int → List PyData → Bool
  | _, [] => true
  | pre, .int w :: r => okW L (Jv.topI pre) (.int w) && (!overI f pre && rowFrom L f (pre ++ [w]) r)
  | _, _ :: _ => false
def isRow (L : Int) (f : Bool) (d : PyData) : Bool := match Jv.seqD d with
  | none => false
  | some ds => rowFrom L f [] ds
def nextsI (L st : Int) : List Int := 0 :: (List.range (L - st).toNat).map fun (i : Nat) => st + 1 + (i : Int)
def endI (f : Bool) (ns : List Int) : Int := if f = true ∧ 0 < Jv.topI ns ∧ Jv.firstI (Jv.topI ns) ns % 2 = 1 then -Jv.topI ns else Jv.topI ns
def sideI (f : Bool) (ns : List Int) : Option Int := if overI f ns = true then none else if f = true then (if ns.length % 2 = 0 then some ((ns.length / 2 % 2 : Nat) : Int) else none) else some ((ns.length % 2 : Nat) : Int)
def oI : Option Int → V
  | none => .non
  | some i => .int i
def wordsI (f : Bool) (s : Nat) (ns : List Int) : List Int := if f = true then Jv.evr (2 * s) 4 ns else Jv.evr s 2 ns
theorem nexts_mem {L st w : Int} (h0 : 0 ≤ L) (h1 : 0 ≤ st) : w ∈ nextsI L st ↔ (0 ≤ w ∧ w ≤ L) ∧ (w = 0 ∨ st < w) := by
  unfold nextsI
  rw [List.mem_cons, List.mem_map]
  constructor
  · rintro (rfl | ⟨i, hi, rfl⟩)
    · exact ⟨⟨Int.le_refl _, h0⟩, .inl rfl⟩
    · have := List.mem_range.mp hi
      omega
  · rintro ⟨⟨a, b⟩, c | c⟩
    · exact .inl c
    · exact .inr ⟨(w - st - 1).toNat, List.mem_range.mpr (by omega), by omega⟩
theorem nexts_okW {L st w : Int} (h0 : 0 ≤ L) (h1 : 0 ≤ st) : decide (w ∈ nextsI L st) = okW L st (.int w) := by
  rw [okW_eq, ← Bool.decide_and, ← Bool.decide_or, ← Bool.decide_and]
  exact decide_eq_decide.mpr (nexts_mem h0 h1)
theorem okW_int {L st : Int} {d : PyData} (h : okW L st d = true) : ∃ w, d = .int w ∧ 0 ≤ w ∧ w ≤ L := by
  cases d with
  | int w =>
    unfold okW at h
    rw [Bool.and_eq_true, Bool.and_eq_true] at h
    exact ⟨w, rfl, of_decide_eq_true h.1.1, of_decide_eq_true h.1.2⟩
  | _ => cases h
theorem rowFrom_no {L : Int} {f : Bool} {pre : List Int} {d : PyData} {r : List PyData} (h : okW L (Jv.topI pre) d = false ∨ overI f pre = true) : rowFrom L f pre (d :: r) = false := by
  cases d with
  | int w =>
    unfold rowFrom
    rcases h with h | h
    · rw [h]; rfl
    · rw [h]; simp
  | _ => rfl
theorem rowFrom_go {L : Int} {f : Bool} {pre : List Int} {w : Int} {r : List PyData} (h1 : okW L (Jv.topI pre) (.int w) = true) (h2 : overI f pre = false) : rowFrom L f pre (.int w :: r) = rowFrom L f (pre ++ [w]) r := by
  conv => lhs; unfold rowFrom
  rw [h1, h2]; rfl
theorem rowFrom_ints {L : Int} {f : Bool} : ∀ {ds : List PyData} {pre : List Int}, rowFrom L f pre ds = true → ∃ ns : List Int, ds = ns.map PyData.int ∧ ∀ n ∈ ns, 0 ≤ n ∧ n ≤ L
  | [], _, _ => ⟨[], rfl, fun _ m => by cases m⟩
  | d :: r, pre, h => by
    cases d with
    | int w =>
      unfold rowFrom at h
      rw [Bool.and_eq_true, Bool.and_eq_true] at h
      obtain ⟨w', e, a, b⟩ := okW_int h.1
      cases e
      obtain ⟨ns, rfl, hn⟩ := rowFrom_ints h.2.2
      refine ⟨w :: ns, rfl, fun n m => ?_⟩
      rcases List.mem_cons.mp m with rfl | m
      · exact ⟨a, b⟩
      · exact hn n m
    | _ => cases h
theorem isRow_ints {L : Int} {f : Bool} {d : PyData} (h : isRow L f d = true) : ∃ ns : List Int, Jv.seqD d = some (ns.map PyData.int) ∧ ∀ n ∈ ns, 0 ≤ n ∧ n ≤ L := by
  unfold isRow at h
  cases e : Jv.seqD d with
  | none => rw [e] at h; cases h
  | some ds =>
    rw [e] at h
    obtain ⟨ns, rfl, hn⟩ := rowFrom_ints h
    exact ⟨ns, rfl, hn⟩
theorem over0 {f : Bool} {ns : List Int} (h : ¬ 0 < ns.length) : overI f ns = false := by unfold overI; rw [decide_eq_false h]; rfl
theorem overF {ns : List Int} {z : Int} (h : 0 < ns.length) (hz : ns[ns.length - 1]? = some z) : overI false ns = decide (z = 0) := by
  unfold overI
  rw [decide_eq_true h, hz]
  by_cases e : z = 0
  · subst e; simp
  · simp [e]
theorem overT {ns : List Int} {z y : Int} (h : 0 < ns.length) (h2 : ns.length % 2 = 0) (hz : ns[ns.length - 1]? = some z) (hy : ns[ns.length - 2]? = some y) : overI true ns = (decide (z = 0) && decide (y = 0)) := by
  unfold overI
  rw [decide_eq_true h, decide_eq_true h2, hz, hy]
  by_cases e : z = 0 <;> by_cases e2 : y = 0 <;> simp [e, e2]
theorem overT1 {ns : List Int} (h2 : ¬ ns.length % 2 = 0) : overI true ns = false := by unfold overI; rw [decide_eq_false h2]; simp
theorem last_at {ns : List Int} {k : Nat} (h0 : 1 ≤ k) (h : k ≤ ns.length) : ∃ z, ns[ns.length - k]? = some z := ⟨ns[ns.length - k], List.getElem?_eq_getElem (by omega)⟩
theorem at_last {ns : List Int} {k : Nat} {z : Int} (h0 : 1 ≤ k) (h : k ≤ ns.length) (e : ns[ns.length - k]? = some z) : atI (ns.map V.int) (-(k : Int)) = some (V.int z) :=
  Jv.at_neg h0 (by rw [List.length_map]; exact h) (by rw [List.length_map, List.getElem?_map, e]; rfl)
theorem rg_nexts {L st : Int} : rgV (st + 1) (L + 1) = ((List.range (L - st).toNat).map fun (i : Nat) => st + 1 + (i : Int)).map V.int := by
  unfold rgV
  rw [List.map_map, show L + 1 - (st + 1) = L - st by omega]; rfl
def sp_is_whole (K : PySem.W.Frag) : Sp := fun vs H Q _ => ∃ x d lo hi, vs = [x, lo, hi] ∧ Jv.Dv K H x d ∧ Jv.Bd lo ∧ Jv.Bd hi ∧ Q (.bl (Jv.wholeV x lo hi)) H
def sp_is_sequence (K : PySem.W.Frag) : Sp := fun vs H Q _ => ∃ x d, vs = [x] ∧ Jv.Dw K H x d ∧ ∀ H', Same H H' → Q (.bl (Jv.seqD d).isSome) H'
def sp_may_be_said (K : PySem.W.Frag) : Sp := fun vs H Q _ => ∃ x d L st, vs = [x, .int L, .int st] ∧ Jv.Dv K H x d ∧ Q (.bl (okW L st d)) H
def sp_is_ended (K : PySem.W.Frag) : Sp := fun vs H Q _ => ∃ x f ns, vs = [x, .bl f] ∧ Jv.Sk K H x (ns.map V.int) ∧ Q (.bl (overI f ns)) H
def sp_standing_at (K : PySem.W.Frag) : Sp := fun vs H Q _ => ∃ x ns, vs = [x] ∧ Jv.Sk K H x (ns.map V.int) ∧ (∀ n ∈ ns, 0 ≤ n) ∧ Q (.int (Jv.topI ns)) H
def sp_end_at (K : PySem.W.Frag) : Sp := fun vs H Q _ => ∃ a f ns, vs = [.ref a, .bl f] ∧ (SqL K H a (ns.map V.int) ∨ (SqT K H a (ns.map V.int) ∧ (ns ≠ [] → Jv.FzT H a))) ∧ (∀ n ∈ ns, 0 ≤ n) ∧ Q (.int (endI f ns)) H
def sp_speaker_at (K : PySem.W.Frag) : Sp := fun vs H Q _ => ∃ x f ns, vs = [x, .bl f] ∧ Jv.Sk K H x (ns.map V.int) ∧ Q (oI (sideI f ns)) H
def sp_words_of (K : PySem.W.Frag) : Sp := fun vs H Q _ => ∃ x f ns, ∃ s : Nat, vs = [x, .bl f, .int s] ∧ s ≤ 1 ∧ Jv.Sk K H x (ns.map V.int) ∧ ∀ t H', Same H H' → SqT K H' t ((wordsI f s ns).map V.int) → Q (.ref t) H'
def sp_foe_words_of (K : PySem.W.Frag) : Sp := fun vs H Q _ => ∃ x ns, vs = [x] ∧ Jv.Sk K H x (ns.map V.int) ∧ ∀ t H', Same H H' → SqT K H' t ((Jv.evr 1 2 ns).map V.int) → Q (.ref t) H'
def sp_next_words (K : PySem.W.Frag) : Sp := fun vs H Q _ => ∃ L st, vs = [.int L, .int st] ∧ (0 ≤ L ∧ L ≤ 100) ∧ (0 ≤ st ∧ st ≤ 100) ∧ ∀ t H', Same H H' → SqT K H' t ((nextsI L st).map V.int) → Q (.ref t) H'
section
variable {P : Program} {w : World} {K : PySem.W.Frag} {mg : Str → Option Value} {base : Heap}
theorem ok_is_whole (T : Tx) (O : Ok K mg T) : FnOk P w K mg base CX0 1 T.f_is_whole T.d_is_whole ["thing", "low", "high"] (sp_is_whole K) := by
  refine O.F_is_whole.ok sc_is_whole (fun vs H Q E h => by obtain ⟨_, _, _, _, rfl, _⟩ := h; rfl) (fun cdv A outer s H vs Q E hr h => ?_)
  obtain ⟨x, d, lo, hi, rfl, hx, hlo, hhi, q⟩ := h
  refine ⟨_, (pss_cons (ps_if (PW.pt (pw_or (pt_val (pe_callB (r := rIsi K) call_isi (by rfl) O.z_isinstance (by decide +kernel) (pa_cons (pv 0) (pa_cons (pe_bltn (v := .ty "bool") (by rfl) O.z_bool (by decide +kernel) rfl) pa_nil)))) (pw_or1 (pt_not (pt_val (pe_callB (r := rIsi K) call_isi (by rfl) O.z_isinstance (by decide +kernel) (pa_cons (pv 0) (pa_cons (pe_bltn (v := .ty "int") (by rfl) O.z_int (by decide +kernel) rfl) pa_nil)))))))) (pss_one (ps_ret pe_bl)) pss_nil)
  (pss_cons (ps_if (PW.pt (pw_and (pt_cmpR op_notN (pv 1) pe_non (nomark _)) (pw_and1 (pt_cmpR op_lt (pv 0) (pv 1) (nomark _))))) (pss_one (ps_ret pe_bl)) pss_nil)
  (pss_one (ps_ret (pe_or (pe_cmpR op_isN (pv 2) pe_non (nomark _)) (pe_one (pe_cmpR op_le (pv 0) (pv 2) (nomark _)))))))), ?_⟩
  walk_at "r"
  have hx2 := hx
  cases hx2 with
  | int i =>
    rcases hlo with rfl | ⟨a, rfl⟩
    · rcases hhi with rfl | ⟨b, rfl⟩ <;> walk_at "r" <;> exact q
    · by_cases h : i < a
      · rw [Jv.wholeV_lo0 h] at q
        walk_at "rr" <;> exact q
      · rw [Jv.wholeV_lo1 h] at q
        rcases hhi with rfl | ⟨b, rfl⟩ <;> walk_at "rr" <;> exact q
  | _ => walk_at "r"; exact q
theorem ok_is_sequence (T : Tx) (O : Ok K mg T) : FnOk P w K mg base CX0 1 T.f_is_sequence T.d_is_sequence ["thing"] (sp_is_sequence K) := by
  refine O.F_is_sequence.ok sc_is_sequence (fun vs H Q E h => by obtain ⟨_, _, rfl, _⟩ := h; rfl) (fun cdv A outer s H vs Q E hr h => ?_)
  obtain ⟨x, d, rfl, hx, q⟩ := h
  refine ⟨_, (pss_one (ps_ret (pe_callB (r := rIsiT K) call_isiT (by rfl) O.z_isinstance (by decide +kernel) (pa_cons (pv 0) (pa_cons (pe_tup (pa_cons (pe_bltn (v := .ty "list") (by rfl) O.z_list (by decide +kernel) rfl) (pa_cons (pe_bltn (v := .ty "tuple") (by rfl) O.z_tuple (by decide +kernel) rfl) pa_nil))) pa_nil))))), ?_⟩
  walk_at "r"
  intro p hp
  have hx2 := hx.same (Jv.same_new (u := .tup [.ty "list", .ty "tuple"]) hp)
  walk_at "r"
  exact Jv.w_isS upd_same hx2 (q _ (Jv.same_new hp))
theorem ok_may_be_said (T : Tx) (O : Ok K mg T) : FnOk P w K mg base CX0 2 T.f_may_be_said T.d_may_be_said ["word", "ladder", "standing"] (sp_may_be_said K) := by
  refine O.F_may_be_said.ok sc_may_be_said (fun vs H Q E h => by obtain ⟨_, _, _, _, rfl, _⟩ := h; rfl) (fun cdv A outer s H vs Q E hr h => ?_)
  obtain ⟨x, d, L, st, rfl, hx, q⟩ := h
  refine ⟨_, (pss_one (ps_ret (pe_and (pe_call (ok_is_whole T O) (hr.mono (by decide)) (by rfl) O.m_is_whole O.F_is_whole.kp O.b_is_whole .nil pass0 (pa_cons (pv 0) (pa_cons pe_int (pa_cons (pv 1) pa_nil)))) (pe_one (pe_or (pe_cmpR op_eq (pv 0) (pe_glob (v := .int (0)) (by rfl) O.c_STOP ⟨_, rfl⟩) (nomark _)) (pe_one (pe_cmpR op_gt (pv 0) (pv 2) (nomark _)))))))), ?_⟩
  walk_at "r"
  refine ⟨x, d, _, _, rfl, hx, .inr ⟨_, rfl⟩, .inr ⟨_, rfl⟩, ?_⟩
  rw [hx.whole]
  refine ⟨_, rfl, ?_⟩
  cases hw : Jv.wholeD d (.int 0) (.int L) with
  | false =>
    have e : okW L st d = false := by
      cases d with
      | int z =>
        have h2 : (decide (0 ≤ z) && decide (z ≤ L)) = false := hw
        rw [okW_eq, h2]; rfl
      | _ => rfl
    rw [e] at q
    walk_at "r"; exact q
  | true =>
    obtain ⟨z, rfl, a, b⟩ := Jv.wholeD_int hw
    cases hx
    have e : okW L st (.int z) = (decide (V.int z = V.int 0) || decide (z > st)) := by
      rw [okW_eq, decide_eq_true a, decide_eq_true b, Jv.decI]; rfl
    rw [e] at q
    walk_at "r"
    cases h0 : decide (V.int z = V.int 0) with
    | true => rw [h0] at q; walk_at "r"; exact q
    | false => rw [h0] at q; walk_at "r"; exact q
theorem ok_is_ended (T : Tx) (O : Ok K mg T) : FnOk P w K mg base CX0 1 T.f_is_ended T.d_is_ended ["row", "foes"] (sp_is_ended K) := by
  refine O.F_is_ended.ok sc_is_ended (fun vs H Q E h => by obtain ⟨_, _, _, rfl, _⟩ := h; rfl) (fun cdv A outer s H vs Q E hr h => ?_)
  obtain ⟨x, f, ns, rfl, hx, q⟩ := h
  refine ⟨_, (pss_cons (ps_if (pt_not (pt_val (pv 1))) (pss_one (ps_ret (pe_and (pe_cmpR op_gt (pe_callB (r := Jv.rLenK K) Jv.cr_len (by rfl) O.z_len (by decide +kernel) (pa_cons (pv 0) pa_nil)) pe_int (nomark _)) (pe_one (pe_cmpR op_eq (pe_ix (r := rIx K) ix_seq (pv 0) (pe_un un_neg pe_int) (fun _ _ => rfl)) (pe_glob (v := .int (0)) (by rfl) O.c_STOP ⟨_, rfl⟩) (nomark _)))))) pss_nil)
  (pss_one (ps_ret (pe_and (pe_cmpR op_gt (pe_callB (r := Jv.rLenK K) Jv.cr_len (by rfl) O.z_len (by decide +kernel) (pa_cons (pv 0) pa_nil)) pe_int (nomark _)) (pe_and (pe_cmpR op_eq (pe_op op_mod (pe_callB (r := Jv.rLenK K) Jv.cr_len (by rfl) O.z_len (by decide +kernel) (pa_cons (pv 0) pa_nil)) pe_int) pe_int (nomark _)) (pe_and (pe_cmpR op_eq (pe_ix (r := rIx K) ix_seq (pv 0) (pe_un un_neg pe_int) (fun _ _ => rfl)) (pe_glob (v := .int (0)) (by rfl) O.c_STOP ⟨_, rfl⟩) (nomark _)) (pe_one (pe_cmpR op_eq (pe_ix (r := rIx K) ix_seq (pv 0) (pe_un un_neg pe_int) (fun _ _ => rfl)) (pe_glob (v := .int (0)) (by rfl) O.c_STOP ⟨_, rfl⟩) (nomark _))))))))), ?_⟩
  walk_at "r"
  cases f with
  | false =>
    walk_at "r"
    refine hx.len ?_
    rw [List.length_map]
    walk_at "r"
    by_cases h : 0 < ns.length
    · obtain ⟨z, hz⟩ := last_at (ns := ns) (k := 1) (Nat.le_refl _) h
      rw [overF h hz, ← Jv.decI] at q
      refine Jv.r_dec1 (by omega) ?_
      walk_at "r"
      refine hx.ix (at_last (Nat.le_refl _) h hz) ?_
      walk_at "r"
      exact q
    · rw [over0 h] at q
      refine Jv.r_dec0 (by omega) ?_
      exact q
  | true =>
    walk_at "r"
    refine hx.len ?_
    rw [List.length_map]
    walk_at "r"
    by_cases h : 0 < ns.length
    · refine Jv.r_dec1 (by omega) ?_
      walk_at "r"
      refine hx.len ?_
      rw [List.length_map]
      walk_at "r"
      by_cases h2 : ns.length % 2 = 0
      · obtain ⟨z, hz⟩ := last_at (ns := ns) (k := 1) (Nat.le_refl _) h
        obtain ⟨y, hy⟩ := last_at (ns := ns) (k := 2) (by decide) (by omega)
        rw [overT h h2 hz hy, ← Jv.decI, ← Jv.decI] at q
        refine Jv.r_dec1 (by rw [show ((ns.length : Int) % 2) = 0 by omega]) ?_
        walk_at "r"
        refine hx.ix (at_last (Nat.le_refl _) h hz) ?_
        walk_at "r"
        cases h0 : decide (V.int z = V.int 0) with
        | true =>
          rw [h0] at q
          walk_at "r"
          refine hx.ix (at_last (k := 2) (by decide) (by omega) hy) ?_
          walk_at "r"
          exact q
        | false => rw [h0] at q; walk_at "r"; exact q
      · rw [overT1 h2] at q
        refine Jv.r_dec0 (fun e => h2 (by have := V.int.inj e; omega)) ?_
        exact q
    · rw [over0 h] at q
      refine Jv.r_dec0 (by omega) ?_
      exact q
theorem ok_standing_at (T : Tx) (O : Ok K mg T) : FnOk P w K mg base CX0 1 T.f_standing_at T.d_standing_at ["row"] (sp_standing_at K) := by
  refine O.F_standing_at.ok sc_standing_at (fun vs H Q E h => by obtain ⟨_, _, rfl, _⟩ := h; rfl) (fun cdv A outer s H vs Q E hr h => ?_)
  obtain ⟨x, ns, rfl, hx, nn, q⟩ := h
  refine ⟨_, (pss_one (ps_ret (pe_callBK (r := Jv.rMaxD K) (Jv.cr_maxD rfl) (by rfl) O.z_max (by decide +kernel) (pa_cons (pv 0) pa_nil) (pk_cons pe_int pk_nil)))), ?_⟩
  walk_at "r"
  refine Jv.r_CKw ?_
  walk_at "r"
  exact Jv.r_maxD hx nn q
theorem ok_end_at (T : Tx) (O : Ok K mg T) : FnOk P w K mg base CX0 2 T.f_end_at T.d_end_at ["row", "foes"] (sp_end_at K) := by
  refine O.F_end_at.ok sc_end_at (fun vs H Q E h => by obtain ⟨_, _, _, rfl, _⟩ := h; rfl) (fun cdv A outer s H vs Q E hr h => ?_)
  obtain ⟨a, f, ns, rfl, hx, nn, q⟩ := h
  refine ⟨_, (pss_cons (ps_set (i := 2) sc_end_at.nd rfl (Or.inl rfl) (pe_call (ok_standing_at T O) (hr.mono (by decide)) (by rfl) O.m_standing_at O.F_standing_at.kp O.b_standing_at .nil pass0 (pa_cons (pv 0) pa_nil)))
  (pss_cons (ps_if (PW.pt (pw_and (pt_val (pv 1)) (pw_and (pt_cmpR op_gt (pv 2) pe_int (nomark _)) (pw_and1 (pt_cmpR op_eq (pe_op op_mod (show PE _ _ (Jv.tIdx K _ (tVar 2)) from Jv.pe_idx (i := 2) (pv 0) rfl (Or.inl rfl)) pe_int) pe_int (nomark _)))))) (pss_one (ps_ret (pe_un un_neg (pv 2)))) pss_nil)
  (pss_one (ps_ret (pv 2))))), ?_⟩
  have sk : Jv.Sk K H (.ref a) (ns.map V.int) := ⟨a, rfl, hx.elim .inl fun h => .inr h.1⟩
  walk_at "r"
  refine ⟨_, ns, rfl, sk, nn, ?_⟩
  walk_at "r"
  cases f with
  | false =>
    have e : endI false ns = Jv.topI ns := if_neg fun h => by cases h.1
    rw [e] at q
    walk_at "r"; exact q
  | true =>
    walk_at "r"
    refine Jv.r_dec (fun h1 => ?_) (fun h1 => ?_)
    · have hm := Jv.topI_mem h1
      walk_at "r"
      refine ⟨_, rfl, _, rfl, a, ns, Jv.topI ns, Jv.firstI (Jv.topI ns) ns, rfl, rfl, rfl, ?_, Jv.firstI_at hm, fun m hm' => Jv.firstI_no hm', ?_⟩
      · rcases hx with hx | ⟨hx, hf⟩
        · exact .inl hx
        · exact .inr ⟨hx, hf (fun e => by rw [e] at hm; cases hm)⟩
      walk_at "r"
      by_cases h2 : Jv.firstI (Jv.topI ns) ns % 2 = 1
      · have e : endI true ns = -Jv.topI ns := if_pos ⟨rfl, h1, h2⟩
        rw [e] at q
        refine Jv.r_dec1 (by rw [show ((Jv.firstI (Jv.topI ns) ns : Nat) : Int) % 2 = 1 by omega]) ?_
        walk_at "r"; exact q
      · have e : endI true ns = Jv.topI ns := if_neg fun h => h2 h.2.2
        rw [e] at q
        refine Jv.r_dec0 (fun z => h2 (by have := V.int.inj z; omega)) ?_
        walk_at "r"; exact q
    · have e : endI true ns = Jv.topI ns := if_neg fun h => h1 h.2.1
      rw [e] at q
      walk_at "r"; exact q
theorem ok_speaker_at (T : Tx) (O : Ok K mg T) : FnOk P w K mg base CX0 2 T.f_speaker_at T.d_speaker_at ["row", "foes"] (sp_speaker_at K) := by
  refine O.F_speaker_at.ok sc_speaker_at (fun vs H Q E h => by obtain ⟨_, _, _, rfl, _⟩ := h; rfl) (fun cdv A outer s H vs Q E hr h => ?_)
  obtain ⟨x, f, ns, rfl, hx, q⟩ := h
  refine ⟨_, (pss_cons (ps_if (pt_val (pe_call (ok_is_ended T O) (hr.mono (by decide)) (by rfl) O.m_is_ended O.F_is_ended.kp O.b_is_ended .nil pass0 (pa_cons (pv 0) (pa_cons (pv 1) pa_nil)))) (pss_one (ps_ret pe_non)) pss_nil)
  (pss_cons (ps_if (pt_not (pt_val (pv 1))) (pss_one (ps_ret (pe_op op_mod (pe_callB (r := Jv.rLenK K) Jv.cr_len (by rfl) O.z_len (by decide +kernel) (pa_cons (pv 0) pa_nil)) pe_int))) pss_nil)
  (pss_one (ps_ret (pe_ifExp (pt_cmpR op_eq (pe_op op_mod (pe_callB (r := Jv.rLenK K) Jv.cr_len (by rfl) O.z_len (by decide +kernel) (pa_cons (pv 0) pa_nil)) pe_int) pe_int (nomark _)) pe_non (pe_op op_mod (pe_op op_fdivW (pe_callB (r := Jv.rLenK K) Jv.cr_len (by rfl) O.z_len (by decide +kernel) (pa_cons (pv 0) pa_nil)) pe_int) pe_int)))))), ?_⟩
  walk_at "r"
  refine ⟨x, f, ns, rfl, hx, ?_⟩
  walk_at "r"
  cases ho : overI f ns with
  | true =>
    have e : sideI f ns = none := if_pos ho
    rw [e] at q
    walk_at "r"; exact q
  | false =>
    have e : sideI f ns = if f = true then (if ns.length % 2 = 0 then some ((ns.length / 2 % 2 : Nat) : Int) else none) else some ((ns.length % 2 : Nat) : Int) := if_neg (by rw [ho]; exact Bool.false_ne_true)
    rw [e] at q
    walk_at "r"
    cases f with
    | false =>
      walk_at "r"
      refine hx.len ?_
      rw [List.length_map]
      walk_at "r"
      rw [if_neg Bool.false_ne_true] at q
      exact q
    | true =>
      rw [if_pos rfl] at q
      walk_at "r"
      refine hx.len ?_
      rw [List.length_map]
      walk_at "r"
      by_cases h2 : ns.length % 2 = 0
      · rw [if_pos h2] at q
        refine Jv.r_dec0 (fun z => by have := V.int.inj z; omega) ?_
        walk_at "r"
        refine hx.len ?_
        rw [List.length_map]
        walk_at "r"
        exact q
      · rw [if_neg h2] at q
        refine Jv.r_dec1 (by rw [show ((ns.length : Int) % 2) = 1 by omega]) ?_
        walk_at "r"
        exact q
theorem ok_words_of (T : Tx) (O : Ok K mg T) : FnOk P w K mg base CX0 1 T.f_words_of T.d_words_of ["row", "foes", "side"] (sp_words_of K) := by
  refine O.F_words_of.ok sc_words_of (fun vs H Q E h => by obtain ⟨_, _, _, _, rfl, _⟩ := h; rfl) (fun cdv A outer s H vs Q E hr h => ?_)
  obtain ⟨x, f, ns, sd, rfl, hs, hx, q⟩ := h
  refine ⟨_, (pss_one (ps_ret (pe_ifExp (pt_val (pv 1)) (pe_callTy (r := Jv.rTupOf K) call_tuple_of (by rfl) O.z_tuple (by decide +kernel) (pa_cons (show PE _ _ (Jv.tEvr K _ _ _) from Jv.pe_evr (pv 0) (pe_op op_mul pe_int (pv 2)) pe_int) pa_nil)) (pe_callTy (r := Jv.rTupOf K) call_tuple_of (by rfl) O.z_tuple (by decide +kernel) (pa_cons (show PE _ _ (Jv.tEvr K _ _ _) from Jv.pe_evr (pv 0) (pv 2) pe_int) pa_nil))))), ?_⟩
  walk_at "r"
  cases f with
  | false =>
    walk_at "r"
    refine Jv.r_evr ?_
    walk_at "r"
    refine ⟨sd, 2, rfl, rfl, hx.evr (Nat.le_refl _) fun p H1 s1 sk => ?_⟩
    walk_at "r"
    rw [Jv.evr_map] at sk
    exact sk.tup fun t H2 s2 sq => q t H2 (s1.trans s2) sq
  | true =>
    walk_at "r"
    refine Jv.r_evr ?_
    walk_at "r"
    refine ⟨2 * sd, 4, by congr 1, rfl, hx.evr (by decide) fun p H1 s1 sk => ?_⟩
    walk_at "r"
    rw [Jv.evr_map] at sk
    exact sk.tup fun t H2 s2 sq => q t H2 (s1.trans s2) sq
theorem ok_foe_words_of (T : Tx) (O : Ok K mg T) : FnOk P w K mg base CX0 1 T.f_foe_words_of T.d_foe_words_of ["row"] (sp_foe_words_of K) := by
  refine O.F_foe_words_of.ok sc_foe_words_of (fun vs H Q E h => by obtain ⟨_, _, rfl, _⟩ := h; rfl) (fun cdv A outer s H vs Q E hr h => ?_)
  obtain ⟨x, ns, rfl, hx, q⟩ := h
  refine ⟨_, (pss_one (ps_ret (pe_callTy (r := Jv.rTupOf K) call_tuple_of (by rfl) O.z_tuple (by decide +kernel) (pa_cons (show PE _ _ (Jv.tEvr K _ _ _) from Jv.pe_evr (pv 0) pe_int pe_int) pa_nil)))), ?_⟩
  walk_at "r"
  refine Jv.r_evr ?_
  walk_at "r"
  refine ⟨1, 2, rfl, rfl, hx.evr (Nat.le_refl _) fun p H1 s1 sk => ?_⟩
  walk_at "r"
  rw [Jv.evr_map] at sk
  exact sk.tup fun t H2 s2 sq => q t H2 (s1.trans s2) sq
theorem ok_next_words (T : Tx) (O : Ok K mg T) : FnOk P w K mg base CX0 1 T.f_next_words T.d_next_words ["ladder", "standing"] (sp_next_words K) := by
  refine O.F_next_words.ok sc_next_words (fun vs H Q E h => by obtain ⟨_, _, rfl, _⟩ := h; rfl) (fun cdv A outer s H vs Q E hr h => ?_)
  obtain ⟨L, st, rfl, hL, hst, q⟩ := h
  refine ⟨_, (pss_one (ps_ret (pe_op (r := rCatA K) op_catA (pe_tup (pa_cons (pe_glob (v := .int (0)) (by rfl) O.c_STOP ⟨_, rfl⟩) pa_nil)) (pe_tupRg rfl (by rfl) O.z_tuple (prg_2 (by rfl) O.z_range (pe_op op_add (pv 1) pe_int) (pe_op op_add (pv 0) pe_int)))))), ?_⟩
  walk_at "r"
  intro t0 h0
  walk_at "r"
  refine Jv.r_tupRg2 ?_
  walk_at "r"
  refine ⟨_, _, rfl, rfl, ⟨by omega, by omega, by omega, by omega, by omega⟩, fun t1 h1 => ?_⟩
  have f0 : upd H t0 (.tup [V.int 0]) t0 = some (.tup [V.int 0]) := upd_same
  have s1 := (Jv.same_new (u := .tup [V.int 0]) h0).trans (Jv.same_new (u := .tup (rgV (st + 1) (L + 1))) h1)
  have e : nextsI L st = 0 :: (List.range (L - st).toNat).map fun (i : Nat) => st + 1 + (i : Int) := rfl
  have hl : (rgV (st + 1) (L + 1)).length ≤ 200 := by
    rw [rg_nexts, List.length_map, List.length_map, List.length_range]; omega
  refine ⟨t0, t1, [.int 0], rgV (st + 1) (L + 1), rfl, rfl, Jv.sqT_at (Jv.kp f0 h1), Jv.sqT_at upd_same, Jv.small_of (by show 1 + _ ≤ 1000; omega), (fun z => nomatch z), fun _ z => ?_, fun _ _ p hp => ?_⟩
  · refine q t0 _ s1 (Jv.sqT_at ?_)
    rw [e, List.map_cons, ← rg_nexts, z]
    exact Jv.kp f0 h1
  · refine q p _ (s1.trans (Jv.same_new hp)) (Jv.sqT_at ?_)
    rw [upd_same, e, List.map_cons, ← rg_nexts]; rfl
end
end K09

namespace K09
open PySem PySem.Spec PyProof.Rows L2
/-! ### whether a value is a row: the program's answer, the law's -/
def few (d : PyData) : Prop := ∀ ds, Jv.seqD d = some ds → ds.length ≤ 60
def sp_is_row (K : PySem.W.Frag) : Sp := fun vs H Q _ => ∃ x d L f, vs = [x, .int L, .bl f] ∧ Jv.Dw K H x d ∧ few d ∧ ∀ H', Same H H' → Q (.bl (isRow L f d)) H'
def sp_check_row (K : PySem.W.Frag) (C : Addr) : Sp := fun vs H Q E => ∃ x d L f, vs = [x, .int L, .bl f] ∧ Jv.Dw K H x d ∧ few d ∧
  ((isRow L f d = true ∧ ∀ (ns : List Int) t H', Jv.seqD d = some (ns.map .int) → Same H H' → SqT K H' t (ns.map V.int) → Q (.ref t) H') ∨ (isRow L f d = false ∧ ∀ H', Same H H' → E (.ref C) none H'))
def sp_Lwhole (K : PySem.W.Frag) : Sp := fun vs H Q _ => ∃ x d, vs = [x] ∧ Jv.Dv K H x d ∧ Q (.bl (Jv.intD d)) H
def sp_Lis : Sp := fun vs H Q _ => ∃ a b, vs = [.bl a, .bl b] ∧ Q (.bl (decide (a = b))) H
def sp_Lover (K : PySem.W.Frag) : Sp := fun vs H Q _ => ∃ x f ns, vs = [x, .bl f] ∧ Jv.Sk K H x (ns.map V.int) ∧ Q (.bl (overI f ns)) H
def sp_Lturn (K : PySem.W.Frag) : Sp := fun vs H Q _ => ∃ x f ns, vs = [x, .bl f] ∧ Jv.Sk K H x (ns.map V.int) ∧ Q (oI (sideI f ns)) H
def sp_Lnexts (K : PySem.W.Frag) : Sp := fun vs H Q _ => ∃ L x ns, vs = [.int L, x] ∧ (0 ≤ L ∧ L ≤ 100) ∧ Jv.Sk K H x (ns.map V.int) ∧ ns.length ≤ 60 ∧ Jv.topI ns ≤ 100 ∧ ∀ r H', Same H H' → H r = none → H' r = some (.lst ((nextsI L (Jv.topI ns)).map V.int)) → Q (.ref r) H'
def sp_Lend (K : PySem.W.Frag) : Sp := fun vs H Q _ => ∃ x f ns, vs = [x, .bl f] ∧ Jv.Sk K H x (ns.map V.int) ∧ ns.length ≤ 60 ∧ ∀ H', Same H H' → Q (.int (endI f ns)) H'
def sp_Lis_row (K : PySem.W.Frag) : Sp := fun vs H Q _ => ∃ x d L f, vs = [x, .int L, .bl f] ∧ (0 ≤ L ∧ L ≤ 100) ∧ Jv.Dw K H x d ∧ few d ∧ ∀ H', Same H H' → Q (.bl (isRow L f d)) H'
def sp_Lrefused (K : PySem.W.Frag) : Sp := fun vs H Q _ => ∃ x d L f, vs = [x, .int L, .bl f] ∧ Jv.Dw K H x d ∧ few d ∧ isRow L f d = false ∧ ∀ H', Same H H' → Q (.bl true) H'
section
variable {P : Program} {w : World} {K : PySem.W.Frag} {mg : Str → Option Value} {base : Heap}
theorem ok_is_row (T : Tx) (O : Ok K mg T) : FnOk P w K mg base CX0 3 T.f_is_row T.d_is_row ["row", "ladder", "foes"] (sp_is_row K) := by
  refine O.F_is_row.ok sc_is_row (fun vs H Q E h => by obtain ⟨_, _, _, _, rfl, _⟩ := h; rfl) (fun cdv A outer s H vs Q E hr h => ?_)
  obtain ⟨x, d, L, f, rfl, hx, fw, q⟩ := h
  refine ⟨_, (pss_cons (ps_if (pt_not (pt_val (pe_call (ok_is_sequence T O) (hr.mono (by decide)) (by rfl) O.m_is_sequence O.F_is_sequence.kp O.b_is_sequence .nil pass0 (pa_cons (pv 0) pa_nil)))) (pss_one (ps_ret pe_bl)) pss_nil)
  (pss_cons (ps_set (i := 3) sc_is_row.nd rfl (Or.inl rfl) pe_int)
  (pss_cons (ps_for PassesOwn.never rfl (Jv.piOr (show PI _ _ _ (iEnum K _) from pi_enum (by rfl) O.z_enumerate (pa_cons (pv 0) pa_nil)) (show PI _ _ _ (Jv.iEnT K _) from Jv.pi_enT (by rfl) O.z_enumerate (pa_cons (pv 0) pa_nil))) (pg_tup rfl (pgs_cons (pg_name (i := 4) sc_is_row.nd rfl (Or.inl rfl)) (pgs_cons (pg_name (i := 5) sc_is_row.nd rfl (Or.inl rfl)) pgs_nil))) (pss_cons (ps_if (PW.pt (pw_or (pt_not (pt_val (pe_call (ok_may_be_said T O) (hr.mono (by decide)) (by rfl) O.m_may_be_said O.F_may_be_said.kp O.b_may_be_said .nil pass0 (pa_cons (pv 5) (pa_cons (pv 1) (pa_cons (pv 3) pa_nil)))))) (pw_or1 (pt_val (pe_call (ok_is_ended T O) (hr.mono (by decide)) (by rfl) O.m_is_ended O.F_is_ended.kp O.b_is_ended .nil pass0 (pa_cons (pe_slice (r := fun x lo hi H Q => rSlL K x lo hi H Q ∨ rSlA K x lo hi H Q) (sl_list.or sl_tupA) (pv 0) po_none (po_some (pv 4))) (pa_cons (pv 2) pa_nil))))))) (pss_one (ps_ret pe_bl)) pss_nil)
  (pss_one (ps_set (i := 3) sc_is_row.nd rfl (Or.inl rfl) (pe_callB (r := Jv.rMax2) (call_max2 rfl) (by rfl) O.z_max (by decide +kernel) (pa_cons (pv 3) (pa_cons (pv 5) pa_nil)))))))
  (pss_one (ps_ret pe_bl))))), ?_⟩
  walk_at "r"
  refine ⟨x, d, rfl, hx, fun H1 s1 => ?_⟩
  walk_at "r"
  cases e : Jv.seqD d with
  | none =>
    have e2 : isRow L f d = false := by unfold isRow; rw [e]
    rw [e2] at q
    walk_at "r"; exact q _ s1
  | some ds =>
    have e2 : isRow L f d = rowFrom L f [] ds := by unfold isRow; rw [e]
    rw [e2] at q
    have hd := (hx.seq e).same s1
    obtain ⟨xs, sk, al⟩ := hd.sk e
    have ll := al.len
    walk_at "r"
    refine Jv.for_en (i := 0) (H0 := H1) rfl sk (Same.refl _) (fun j σ H2 => ∃ y4 y5 pre, σ = [some x, some (.int L), some (.bl f), some (.int (Jv.topI pre)), y4, y5] ∧ Same H1 H2 ∧ ds.take j = pre.map .int ∧ rowFrom L f [] ds = rowFrom L f pre (ds.drop j)) ⟨_, _, [], rfl, Same.refl _, rfl, rfl⟩ (fun _ _ _ ⟨_, _, _, _, s2, _⟩ => s2) ?_ ?_
    · rintro j v t σ H2 hv ht ⟨y4, y5, pre, rfl, s2, et, eb⟩
      obtain ⟨e', he', dv⟩ := al.at hv
      have sN := Jv.same_new (u := .tup [.int (j : Nat), v]) ht
      have s12 := s2.trans sN
      have hdrop : ds.drop j = e' :: ds.drop (j + 1) := List.drop_eq_getElem?_toList_append.trans (by rw [he']; rfl)
      rw [hdrop] at eb
      have xp : xs.take j = pre.map V.int := by
        have h1 := Jv.dv_take j al
        rw [et] at h1
        exact Jv.dv_intsV h1
      walk_at "r"
      refine ⟨_, e', _, _, rfl, dv.same s12, ?_⟩
      walk_at "r"
      cases hw : okW L (Jv.topI pre) e' with
      | false =>
        rw [rowFrom_no (.inl hw)] at eb
        rw [eb] at q
        walk_at "r"
        exact q _ (s1.trans s12)
      | true =>
        obtain ⟨z, rfl, _, _⟩ := okW_int hw
        cases dv
        walk_at "r"
        refine Jv.r_slTo rfl rfl (Jv.sl_pre (sk.same s12) fun r H3 s3 skr => ?_)
        rw [xp] at skr
        walk_at "r"
        refine ⟨_, f, pre, rfl, skr, ?_⟩
        walk_at "r"
        cases ho : overI f pre with
        | true =>
          rw [rowFrom_no (.inr ho)] at eb
          rw [eb] at q
          walk_at "r"
          exact q _ (s1.trans (s12.trans s3))
        | false =>
          rw [rowFrom_go hw ho] at eb
          walk_at "r"
          refine ⟨some (.int (j : Nat)), some (.int z), pre ++ [z], ?_, s12.trans s3, ?_, eb⟩
          · rw [Jv.topI_snoc]
            have : (if z > Jv.topI pre then z else Jv.topI pre) = max (Jv.topI pre) z := by split <;> omega
            rw [this]; rfl
          · rw [Jv.take_more he', et, List.map_append]; rfl
    · rintro σ H2 ⟨y4, y5, pre, rfl, s2, et, eb⟩
      rw [ll, List.drop_length] at eb
      rw [eb] at q
      walk_at "r"
      exact q _ (s1.trans s2)
theorem ok_check_row (T : Tx) (O : Ok K mg T) : FnOk P w K mg base (L2.CX P w) 4 T.f_check_row T.d_check_row ["row", "ladder", "foes"] (sp_check_row K T.C_BadRow) := by
  refine O.F_check_row.okX sc_check_row (fun vs H Q E h => by obtain ⟨_, _, _, _, rfl, _⟩ := h; rfl) (fun cdv A outer s H vs Q E hr h => ?_)
  obtain ⟨x, d, L, f, rfl, hx, fw, q⟩ := h
  refine ⟨_, (pss_cons (ps_if (pt_not (pt_val (pe_call (ok_is_row T O) (hr.mono (by decide)) (by rfl) O.m_is_row O.F_is_row.kp O.b_is_row .nil pass0 (pa_cons (pv 0) (pa_cons (pv 1) (pa_cons (pv 2) pa_nil)))))) (pss_one (ps_raise rfl (takes_of rfl rfl rfl rfl) (Jv.pmk_own0 PySem.F.excBase_ValueError O.e_BadRow.x O.m_BadRow O.e_BadRow.k (O.e_BadRow.raises) (by rfl)))) pss_nil)
  (pss_one (ps_ret (pe_callTy (r := Jv.rTupOf K) call_tuple_of (by rfl) O.z_tuple (by decide +kernel) (pa_cons (pv 0) pa_nil))))), ?_⟩
  walk_at "r"
  refine ⟨x, d, L, f, rfl, hx, fw, fun H1 s1 => ?_⟩
  walk_at "r"
  rcases q with ⟨h1, q⟩ | ⟨h1, q⟩
  · rw [h1]
    walk_at "r"
    obtain ⟨ns, e, _⟩ := isRow_ints h1
    obtain ⟨xs, sk, al⟩ := ((hx.seq e).same s1).sk e
    obtain rfl := Jv.dv_intsV al
    exact sk.tup fun t H2 s2 sq => q ns t H2 e (s1.trans s2) sq
  · rw [h1]
    walk_at "r"
    exact q _ s1
theorem ok_Lwhole (T : Tx) (O : Ok K mg T) : FnOk P w K mg base CX0 1 T.f_Lwhole T.d_Lwhole ["_law_thing"] (sp_Lwhole K) := by
  refine O.F_Lwhole.ok sc_Lwhole (fun vs H Q E h => by obtain ⟨_, _, rfl, _⟩ := h; rfl) (fun cdv A outer s H vs Q E hr h => ?_)
  obtain ⟨x, d, rfl, hx, q⟩ := h
  refine ⟨_, (pss_one (ps_ret (pe_and (pe_callB (r := rIsi K) call_isi (by rfl) O.z_isinstance (by decide +kernel) (pa_cons (pv 0) (pa_cons (pe_bltn (v := .ty "int") (by rfl) O.z_int (by decide +kernel) rfl) pa_nil))) (pe_one (pe_not (pe_callB (r := rIsi K) call_isi (by rfl) O.z_isinstance (by decide +kernel) (pa_cons (pv 0) (pa_cons (pe_bltn (v := .ty "bool") (by rfl) O.z_bool (by decide +kernel) rfl) pa_nil)))))))), ?_⟩
  walk_at "r"
  cases hx <;> walk_at "r" <;> exact q
theorem ok_Lis (T : Tx) (O : Ok K mg T) : FnOk P w K mg base CX0 1 T.f_Lis T.d_Lis ["_law_told", "_law_due"] sp_Lis := by
  refine O.F_Lis.ok sc_Lis (fun vs H Q E h => by obtain ⟨_, _, rfl, _⟩ := h; rfl) (fun cdv A outer s H vs Q E hr h => ?_)
  obtain ⟨a, b, rfl, q⟩ := h
  refine ⟨_, (pss_one (ps_ret (pe_and (pe_callB (r := rIsi K) call_isi (by rfl) O.z_isinstance (by decide +kernel) (pa_cons (pv 0) (pa_cons (pe_bltn (v := .ty "bool") (by rfl) O.z_bool (by decide +kernel) rfl) pa_nil))) (pe_one (pe_cmpR op_eq (pv 0) (pv 1) (nomark _)))))), ?_⟩
  walk_at "r"
  have e : decide (V.bl a = V.bl b) = decide (a = b) := by cases a <;> cases b <;> rfl
  rw [e]; exact q
theorem ok_Lover (T : Tx) (O : Ok K mg T) : FnOk P w K mg base CX0 1 T.f_Lover T.d_Lover ["_law_row_here", "_law_foes"] (sp_Lover K) := by
  refine O.F_Lover.ok sc_Lover (fun vs H Q E h => by obtain ⟨_, _, _, rfl, _⟩ := h; rfl) (fun cdv A outer s H vs Q E hr h => ?_)
  obtain ⟨x, f, ns, rfl, hx, q⟩ := h
  refine ⟨_, (pss_cons (ps_if (PW.pt (pw_or (pt_cmpR op_eq (pe_callB (r := Jv.rLenK K) Jv.cr_len (by rfl) O.z_len (by decide +kernel) (pa_cons (pv 0) pa_nil)) pe_int (nomark _)) (pw_or1 (pt_cmpR op_ne (pe_ix (r := rIx K) ix_seq (pv 0) (pe_un un_neg pe_int) (fun _ _ => rfl)) pe_int (nomark _))))) (pss_one (ps_ret pe_bl)) pss_nil)
  (pss_one (ps_ret (pe_or (pe_not (pv 1)) (pe_one (pe_and (pe_cmpR op_eq (pe_op op_mod (pe_callB (r := Jv.rLenK K) Jv.cr_len (by rfl) O.z_len (by decide +kernel) (pa_cons (pv 0) pa_nil)) pe_int) pe_int (nomark _)) (pe_one (pe_cmpR op_eq (pe_ix (r := rIx K) ix_seq (pv 0) (pe_un un_neg pe_int) (fun _ _ => rfl)) pe_int (nomark _))))))))), ?_⟩
  walk_at "r"
  refine hx.len ?_
  rw [List.length_map]
  walk_at "r"
  by_cases h : 0 < ns.length
  · obtain ⟨z, hz⟩ := last_at (ns := ns) (k := 1) (Nat.le_refl _) h
    refine Jv.r_dec0 (fun e => by have := V.int.inj e; omega) ?_
    walk_at "r"
    refine hx.ix (at_last (Nat.le_refl _) h hz) ?_
    walk_at "r"
    refine Jv.r_ndecI (fun h0 => ?_) (fun h0 => ?_)
    · have e : overI f ns = false := by
        unfold overI
        rw [hz, decide_eq_false (show ¬ (some z = some (0 : Int)) from fun e => h0 (Option.some.inj e))]; simp
      rw [e] at q
      walk_at "r"; exact q
    · subst h0
      walk_at "r"
      cases f with
      | false =>
        rw [overF h hz] at q
        walk_at "r"; exact q
      | true =>
        walk_at "r"
        refine hx.len ?_
        rw [List.length_map]
        walk_at "r"
        by_cases h2 : ns.length % 2 = 0
        · obtain ⟨y, hy⟩ := last_at (ns := ns) (k := 2) (by decide) (by omega)
          rw [overT h h2 hz hy, ← Jv.decI, ← Jv.decI] at q
          refine Jv.r_dec1 (by rw [show ((ns.length : Int) % 2) = 0 by omega]) ?_
          walk_at "r"
          refine hx.ix (at_last (k := 2) (by decide) (by omega) hy) ?_
          walk_at "r"
          exact q
        · rw [overT1 h2] at q
          refine Jv.r_dec0 (fun e => h2 (by have := V.int.inj e; omega)) ?_
          exact q
  · rw [over0 h] at q
    refine Jv.r_dec1 (by rw [show (ns.length : Int) = 0 by omega]) ?_
    walk_at "r"; exact q
theorem ok_Lturn (T : Tx) (O : Ok K mg T) : FnOk P w K mg base CX0 2 T.f_Lturn T.d_Lturn ["_law_row_here", "_law_foes"] (sp_Lturn K) := by
  refine O.F_Lturn.ok sc_Lturn (fun vs H Q E h => by obtain ⟨_, _, _, rfl, _⟩ := h; rfl) (fun cdv A outer s H vs Q E hr h => ?_)
  obtain ⟨x, f, ns, rfl, hx, q⟩ := h
  refine ⟨_, (pss_cons (ps_if (pt_val (pe_call (ok_Lover T O) (hr.mono (by decide)) (by rfl) O.m_Lover O.F_Lover.kp O.b_Lover .nil pass0 (pa_cons (pv 0) (pa_cons (pv 1) pa_nil)))) (pss_one (ps_ret pe_non)) pss_nil)
  (pss_cons (ps_if (pt_not (pt_val (pv 1))) (pss_one (ps_ret (pe_op op_mod (pe_callB (r := Jv.rLenK K) Jv.cr_len (by rfl) O.z_len (by decide +kernel) (pa_cons (pv 0) pa_nil)) pe_int))) pss_nil)
  (pss_one (ps_ret (pe_ifExp (pt_cmpR op_eq (pe_op op_mod (pe_callB (r := Jv.rLenK K) Jv.cr_len (by rfl) O.z_len (by decide +kernel) (pa_cons (pv 0) pa_nil)) pe_int) pe_int (nomark _)) (pe_op op_mod (pe_op op_fdivW (pe_callB (r := Jv.rLenK K) Jv.cr_len (by rfl) O.z_len (by decide +kernel) (pa_cons (pv 0) pa_nil)) pe_int) pe_int) pe_non))))), ?_⟩
  walk_at "r"
  refine ⟨x, f, ns, rfl, hx, ?_⟩
  walk_at "r"
  cases ho : overI f ns with
  | true =>
    have e : sideI f ns = none := if_pos ho
    rw [e] at q
    walk_at "r"; exact q
  | false =>
    have e : sideI f ns = if f = true then (if ns.length % 2 = 0 then some ((ns.length / 2 % 2 : Nat) : Int) else none) else some ((ns.length % 2 : Nat) : Int) := if_neg (by rw [ho]; exact Bool.false_ne_true)
    rw [e] at q
    walk_at "r"
    cases f with
    | false =>
      walk_at "r"
      refine hx.len ?_
      rw [List.length_map]
      walk_at "r"
      rw [if_neg Bool.false_ne_true] at q
      exact q
    | true =>
      rw [if_pos rfl] at q
      walk_at "r"
      refine hx.len ?_
      rw [List.length_map]
      walk_at "r"
      by_cases h2 : ns.length % 2 = 0
      · rw [if_pos h2] at q
        refine Jv.r_dec1 (by rw [show ((ns.length : Int) % 2) = 0 by omega]) ?_
        walk_at "r"
        refine hx.len ?_
        rw [List.length_map]
        walk_at "r"
        exact q
      · rw [if_neg h2] at q
        refine Jv.r_dec0 (fun z => by have := V.int.inj z; omega) ?_
        walk_at "r"
        exact q
theorem ok_Lnexts (T : Tx) (O : Ok K mg T) : FnOk P w K mg base CX0 1 T.f_Lnexts T.d_Lnexts ["_law_ladder", "_law_row_here"] (sp_Lnexts K) := by
  refine O.F_Lnexts.ok sc_Lnexts (fun vs H Q E h => by obtain ⟨_, _, _, rfl, _⟩ := h; rfl) (fun cdv A outer s H vs Q E hr h => ?_)
  obtain ⟨L, x, ns, rfl, hL, hx, hn, ht, q⟩ := h
  refine ⟨_, (pss_one (ps_ret (pe_op op_cat (pe_lst (pa_cons pe_int pa_nil)) (pe_listRg rfl (by rfl) O.z_list (prg_2 (by rfl) O.z_range (pe_op op_add (pe_callB (r := rMax K) (cr_max rfl) (by rfl) O.z_max (by decide +kernel) (pa_cons (pe_op op_cat (pe_lst (pa_cons pe_int pa_nil)) (pe_callTy (r := Jv.rListOf K) call_list_of (by rfl) O.z_list (by decide +kernel) (pa_cons (pv 1) pa_nil))) pa_nil)) pe_int) (pe_op op_add (pv 0) pe_int)))))), ?_⟩
  walk_at "r"
  intro t0 h0
  refine Jv.r_lstRg2 ?_
  walk_at "r"
  intro t1 h1
  have e1 : upd (upd H t0 (.lst [V.int 0])) t1 (.lst [V.int 0]) t1 = some (.lst [V.int 0]) := upd_same
  have s1 := (Jv.same_new (u := .lst [V.int 0]) h0).trans (Jv.same_new (u := .lst [V.int 0]) h1)
  have e0 : upd (upd H t0 (.lst [V.int 0])) t1 (.lst [V.int 0]) t0 = some (.lst [V.int 0]) := Jv.kp upd_same h1
  generalize upd (upd H t0 (.lst [V.int 0])) t1 (.lst [V.int 0]) = H1 at s1 e0 e1
  walk_at "r"
  refine (hx.same s1).list fun l H2 hl s2 el => ?_
  refine Jv.r_cat (s2 _ _ e1) el (Jv.small_of (by simp; omega)) fun p H3 hp s3 ep => ?_
  walk_at "r"
  refine Jv.maxL ep ?_
  walk_at "r"
  have t0' := Jv.topI_0 (ns := ns)
  refine ⟨_, _, rfl, rfl, ⟨by omega, by omega, by omega, by omega, by omega⟩, fun t4 h4 => ?_⟩
  have s14 := s2.trans (s3.trans (Jv.same_new (u := .lst (rgV (Jv.topI ns + 1) (L + 1))) h4))
  refine Jv.r_cat (s14 _ _ e0) upd_same (Jv.small_of ?_) fun r H5 hr5 s5 er => ?_
  · rw [rg_nexts, List.length_map, List.length_map, List.length_range]; simp; omega
  · refine q r H5 (s1.trans (s14.trans s5)) ((s1.trans s14).free hr5) ?_
    rw [er, rg_nexts]; rfl
theorem ok_Lend (T : Tx) (O : Ok K mg T) : FnOk P w K mg base CX0 1 T.f_Lend T.d_Lend ["_law_row_here", "_law_foes"] (sp_Lend K) := by
  refine O.F_Lend.ok sc_Lend (fun vs H Q E h => by obtain ⟨_, _, _, rfl, _⟩ := h; rfl) (fun cdv A outer s H vs Q E hr h => ?_)
  obtain ⟨x, f, ns, rfl, hx, hn, q⟩ := h
  refine ⟨_, (pss_cons (ps_set (i := 2) sc_Lend.nd rfl (Or.inl rfl) (pe_callB (r := rMax K) (cr_max rfl) (by rfl) O.z_max (by decide +kernel) (pa_cons (pe_op op_cat (pe_lst (pa_cons pe_int pa_nil)) (pe_callTy (r := Jv.rListOf K) call_list_of (by rfl) O.z_list (by decide +kernel) (pa_cons (pv 0) pa_nil))) pa_nil)))
  (pss_cons (ps_if (PW.pt (pw_and (pt_cmpR op_gt (pv 2) pe_int (nomark _)) (pw_and (pt_val (pv 1)) (pw_and1 (pt_cmpR op_eq (pe_op op_mod (show PE _ _ (tBM K _ _ _ _) from pe_bm PySem.F.plainAttrs_list PySem.F.slot_list_index PySem.F.type_list_index mt_index (pe_callTy (r := Jv.rListOf K) call_list_of (by rfl) O.z_list (by decide +kernel) (pa_cons (pv 0) pa_nil)) (pa_cons (pv 2) pa_nil)) pe_int) pe_int (nomark _)))))) (pss_one (ps_ret (pe_un un_neg (pv 2)))) pss_nil)
  (pss_one (ps_ret (pv 2))))), ?_⟩
  walk_at "r"
  intro t1 h1
  have e1 : upd H t1 (.lst [V.int 0]) t1 = some (.lst [V.int 0]) := upd_same
  have s1 := Jv.same_new (u := .lst [V.int 0]) h1
  generalize upd H t1 (.lst [V.int 0]) = H1 at s1 e1
  walk_at "r"
  refine (hx.same s1).list fun l H2 hl s2 el => ?_
  refine Jv.r_cat (s2 _ _ e1) el (Jv.small_of (by simp; omega)) fun p H3 hp s3 ep => ?_
  walk_at "r"
  refine Jv.maxL ep ?_
  have s13 := s1.trans (s2.trans s3)
  walk_at "r"
  refine Jv.r_dec (fun c1 => ?_) (fun c1 => ?_)
  · walk_at "r"
    cases f with
    | false =>
      have e : endI false ns = Jv.topI ns := if_neg fun h => by cases h.1
      rw [e] at q
      walk_at "r"; exact q _ s13
    | true =>
      have hm := Jv.topI_mem c1
      walk_at "r"
      refine (hx.same s13).list fun l4 H4 hl4 s4 el4 => ?_
      refine ⟨.inl ⟨rfl, _, Jv.sqL_at el4⟩, ?_⟩
      walk_at "r"
      have fi := Jv.firstI_at hm
      refine ⟨l4, _, _, Jv.firstI (Jv.topI ns) ns, .int (Jv.topI ns), rfl, rfl, Jv.sqL_at el4, rfl, Jv.flatI ns, by rw [List.getElem?_map, fi]; rfl, by rw [Jv.eqV_ints, decide_eq_true rfl], fun m z' hm' e' => ?_, ?_⟩
      · obtain ⟨n, hn', rfl⟩ := Jv.map_at e'
        rw [Jv.eqV_ints, decide_eq_false]
        intro e; subst e; exact Jv.firstI_no hm' hn'
      walk_at "r"
      by_cases h2 : Jv.firstI (Jv.topI ns) ns % 2 = 1
      · have e : endI true ns = -Jv.topI ns := if_pos ⟨rfl, c1, h2⟩
        rw [e] at q
        refine Jv.r_dec1 (by rw [show ((Jv.firstI (Jv.topI ns) ns : Nat) : Int) % 2 = 1 by omega]) ?_
        walk_at "r"; exact q _ (s13.trans s4)
      · have e : endI true ns = Jv.topI ns := if_neg fun h => h2 h.2.2
        rw [e] at q
        refine Jv.r_dec0 (fun z => h2 (by have := V.int.inj z; omega)) ?_
        walk_at "r"; exact q _ (s13.trans s4)
  · have e : endI f ns = Jv.topI ns := if_neg fun h => c1 h.2.1
    rw [e] at q
    walk_at "r"; exact q _ s13
theorem ok_Lis_row (T : Tx) (O : Ok K mg T) : FnOk P w K mg base CX0 2 T.f_Lis_row T.d_Lis_row ["_law_thing", "_law_ladder", "_law_foes"] (sp_Lis_row K) := by
  refine O.F_Lis_row.ok sc_Lis_row (fun vs H Q E h => by obtain ⟨_, _, _, _, rfl, _⟩ := h; rfl) (fun cdv A outer s H vs Q E hr h => ?_)
  obtain ⟨x, d, L, f, rfl, hL, hx, fw, q⟩ := h
  refine ⟨_, (pss_cons (ps_if (pt_not (pt_val (pe_callB (r := rIsiT K) call_isiT (by rfl) O.z_isinstance (by decide +kernel) (pa_cons (pv 0) (pa_cons (pe_tup (pa_cons (pe_bltn (v := .ty "list") (by rfl) O.z_list (by decide +kernel) rfl) (pa_cons (pe_bltn (v := .ty "tuple") (by rfl) O.z_tuple (by decide +kernel) rfl) pa_nil))) pa_nil))))) (pss_one (ps_ret pe_bl)) pss_nil)
  (pss_cons (ps_for PassesOwn.never rfl (pi_range1 (by rfl) O.z_range (pa_cons (pe_callB (r := Jv.rLenK K) Jv.cr_len (by rfl) O.z_len (by decide +kernel) (pa_cons (pv 0) pa_nil)) pa_nil)) (pg_name (i := 3) sc_Lis_row.nd rfl (Or.inl rfl)) (pss_cons (ps_if (PW.pt (pw_or (pt_not (pt_val (pe_call (ok_Lwhole T O) (hr.mono (by decide)) (by rfl) O.m_Lwhole O.F_Lwhole.kp O.b_Lwhole .nil pass0 (pa_cons (pe_ix (r := rIx K) ix_seq (pv 0) (pv 3) (fun _ _ => rfl)) pa_nil)))) (pw_or1 (pt_cmpR (r := rIn K true) op_notIn_seq (pe_ix (r := rIx K) ix_seq (pv 0) (pv 3) (fun _ _ => rfl)) (pe_call (ok_Lnexts T O) (hr.mono (by decide)) (by rfl) O.m_Lnexts O.F_Lnexts.kp O.b_Lnexts .nil pass0 (pa_cons (pv 1) (pa_cons (pe_slice (r := fun x lo hi H Q => rSlL K x lo hi H Q ∨ rSlA K x lo hi H Q) (sl_list.or sl_tupA) (pv 0) po_none (po_some (pv 3))) pa_nil))) rfl)))) (pss_one (ps_ret pe_bl)) pss_nil)
  (pss_one (ps_if (pt_val (pe_call (ok_Lover T O) (hr.mono (by decide)) (by rfl) O.m_Lover O.F_Lover.kp O.b_Lover .nil pass0 (pa_cons (pe_slice (r := fun x lo hi H Q => rSlL K x lo hi H Q ∨ rSlA K x lo hi H Q) (sl_list.or sl_tupA) (pv 0) po_none (po_some (pv 3))) (pa_cons (pv 2) pa_nil)))) (pss_one (ps_ret pe_bl)) pss_nil))))
  (pss_one (ps_ret pe_bl)))), ?_⟩
  walk_at "r"
  intro p hp
  have hx2 := hx.same (Jv.same_new (u := .tup [.ty "list", .ty "tuple"]) hp)
  have s1 := Jv.same_new (u := .tup [.ty "list", .ty "tuple"]) hp
  walk_at "r"
  refine Jv.w_isS upd_same hx2 ?_
  generalize upd H p (.tup [.ty "list", .ty "tuple"]) = H1 at s1 hx2
  walk_at "r"
  cases e : Jv.seqD d with
  | none =>
    have e2 : isRow L f d = false := by unfold isRow; rw [e]
    rw [e2] at q
    walk_at "r"; exact q _ s1
  | some ds =>
    have e2 : isRow L f d = rowFrom L f [] ds := by unfold isRow; rw [e]
    rw [e2] at q
    obtain ⟨xs, sk, al⟩ := (hx2.seq e).sk e
    have ll := al.len
    have f60 := fw ds e
    walk_at "r"
    refine sk.len ?_
    walk_at "r"
    refine ⟨_, rfl, by omega, by omega, ?_⟩
    refine for_range (lo := 0) (n := xs.length) (fun j σ H2 => ∃ y3 pre, σ = [some x, some (.int L), some (.bl f), y3] ∧ Same H1 H2 ∧ (∀ n ∈ pre, 0 ≤ n ∧ n ≤ L) ∧ ds.take j = pre.map .int ∧ rowFrom L f [] ds = rowFrom L f pre (ds.drop j)) ⟨_, [], rfl, Same.refl _, (fun _ m => nomatch m), rfl, rfl⟩ ?_ ?_
    · rintro j σ H2 hj ⟨y3, pre, rfl, s2, hp2, et, eb⟩
      obtain ⟨e', he', dv⟩ := al.at (List.getElem?_eq_getElem hj)
      have hv : xs[j]? = some xs[j] := List.getElem?_eq_getElem hj
      generalize xs[j] = v at dv hv
      have hdrop : ds.drop j = e' :: ds.drop (j + 1) := List.drop_eq_getElem?_toList_append.trans (by rw [he']; rfl)
      rw [hdrop] at eb
      have xp : xs.take j = pre.map V.int := by
        have h1 := Jv.dv_take j al
        rw [et] at h1
        exact Jv.dv_intsV h1
      have ej : (0 : Int) + (j : Int) = (j : Int) := by omega
      have at1 : atI xs (0 + (j : Int)) = some v := by rw [ej]; exact atI_nat hv
      walk_at "r"
      refine (sk.same s2).ix at1 ?_
      walk_at "r"
      refine ⟨v, e', rfl, dv.same s2, ?_⟩
      walk_at "r"
      cases hi : Jv.intD e' with
      | false =>
        have hw : okW L (Jv.topI pre) e' = false := by
          cases e' with
          | int z => cases hi
          | _ => rfl
        rw [rowFrom_no (.inl hw)] at eb
        rw [eb] at q
        walk_at "r"
        exact q _ (s1.trans s2)
      | true =>
        obtain ⟨z, rfl⟩ : ∃ z, e' = .int z := by
          cases e' with
          | int z => exact ⟨z, rfl⟩
          | _ => cases hi
        cases dv
        walk_at "r"
        refine (sk.same s2).ix at1 ?_
        walk_at "r"
        rw [ej]
        refine Jv.r_slTo rfl rfl (Jv.sl_pre (sk.same s2) fun r H3 s3 skr => ?_)
        rw [xp] at skr
        have lp : pre.length ≤ 60 := by
          have := congrArg List.length xp
          rw [List.length_take, List.length_map] at this; omega
        have tp : Jv.topI pre ≤ L := Jv.topI_le hL.1 fun n m => (hp2 n m).2
        have tp0 := Jv.topI_0 (ns := pre)
        walk_at "r"
        refine ⟨L, _, pre, rfl, hL, skr, lp, by omega, fun g H4 s4 _ eg => ?_⟩
        refine ⟨g, _, rfl, .inl (Jv.sqL_at eg), rfl, Jv.flatI _, ?_⟩
        rw [if_pos rfl, Jv.inV_ints, nexts_okW hL.1 tp0]
        walk_at "r"
        cases hw : okW L (Jv.topI pre) (.int z) with
        | false =>
          rw [rowFrom_no (.inl hw)] at eb
          rw [eb] at q
          walk_at "r"
          exact q _ (s1.trans (s2.trans (s3.trans s4)))
        | true =>
          have s24 := s2.trans (s3.trans s4)
          walk_at "r"
          refine Jv.r_slTo rfl rfl (Jv.sl_pre (sk.same s24) fun r2 H5 s5 skr2 => ?_)
          rw [xp] at skr2
          walk_at "r"
          refine ⟨_, f, pre, rfl, skr2, ?_⟩
          walk_at "r"
          cases ho : overI f pre with
          | true =>
            rw [rowFrom_no (.inr ho)] at eb
            rw [eb] at q
            walk_at "r"
            exact q _ (s1.trans (s24.trans s5))
          | false =>
            rw [rowFrom_go hw ho] at eb
            walk_at "r"
            refine ⟨_, pre ++ [z], rfl, s24.trans s5, fun n m => ?_, ?_, eb⟩
            · rcases List.mem_append.mp m with m | m
              · exact hp2 n m
              · rw [List.mem_singleton.mp m]
                obtain ⟨w', e5, a, b⟩ := okW_int hw
                cases e5
                exact ⟨a, b⟩
            · rw [Jv.take_more he', et, List.map_append]; rfl
    · rintro σ H2 ⟨y3, pre, rfl, s2, hp2, et, eb⟩
      rw [ll, List.drop_length] at eb
      rw [eb] at q
      walk_at "r"
      exact q _ (s1.trans s2)
theorem ok_Lrefused (T : Tx) (O : Ok K mg T) : FnOk P w K mg base CX0 5 T.f_Lrefused T.d_Lrefused ["_law_row_here", "_law_ladder", "_law_foes"] (sp_Lrefused K) := by
  refine O.F_Lrefused.ok sc_Lrefused (fun vs H Q E h => by obtain ⟨_, _, _, _, rfl, _⟩ := h; rfl) (fun cdv A outer s H vs Q E hr h => ?_)
  obtain ⟨x, d, L, f, rfl, hx, fw, hb, q⟩ := h
  refine ⟨_, (pss_cons (ps_set (i := 3) sc_Lrefused.nd rfl (Or.inl rfl) pe_str)
  (pss_cons (ps_try_as (i := 4) rfl rfl sc_Lrefused.nd rfl rfl ⟨rfl, by decide, .inl O.m_BadRow⟩ takes0 (fun W pn xe tk _ => (pss_one (ps_expr (pe_callS (ok_check_row T O) (hr.mono (by decide)) (by rfl) O.m_check_row O.F_check_row.kp O.b_check_row (fun σ => passAt tk σ) (pa_cons (pv 0) (pa_cons (pv 1) (pa_cons (pv 2) pa_nil))))))) (fun a oe cls d pn hz hf => (pss_one (ps_set (i := 3) sc_Lrefused.nd rfl (Or.inl rfl) (pe_ifExp (PW.pt (pw_and (pt_val (pe_callB (r := Jv.rIsX K a cls d) (Jv.call_isX hz hf) (by rfl) O.z_isinstance (by decide +kernel) (pa_cons (pv 4) (pa_cons (pe_glob (v := .ref _) (by rfl) O.m_CallError rfl) pa_nil)))) (pw_and1 (pt_val (pe_callB (r := Jv.rIsX K a cls d) (Jv.call_isX hz hf) (by rfl) O.z_isinstance (by decide +kernel) (pa_cons (pv 4) (pa_cons (pe_bltn (v := .ty "ValueError") (by rfl) O.z_ValueError (by decide +kernel) rfl) pa_nil))))))) pe_str pe_str)))))
  (pss_one (ps_ret (pe_cmpR op_eq (pv 3) pe_str (nomark _)))))), ?_⟩
  walk_at "r"
  refine ⟨x, d, L, f, rfl, hx, fw, .inr ⟨hb, fun H1 s1 => ?_⟩⟩
  refine ⟨true, O.e_BadRow.e, fun _ a ha => ?_, fun z => nomatch z⟩
  have xi : Jv.XiC K T.C_BadRow := ⟨O.e_BadRow.i, O.i_BadRow_ga, O.i_BadRow_gg, O.e_BadRow.b, O.i_BadRow_ca, O.i_BadRow_sp, O.i_BadRow_tk, O.i_BadRow_mr⟩
  walk_at "r"
  refine ⟨T.C_BadRow, .ref T.C_CallError, _, true, rfl, rfl, xi, rfl, .own _, O.i_BadRow_xc, ?_⟩
  walk_at "r"
  refine ⟨T.C_BadRow, .ty "ValueError", _, true, rfl, rfl, xi, rfl, .ty _, O.i_BadRow_xv, ?_⟩
  walk_at "r"
  exact q _ s1
end
end K09

namespace Jv
open PySem PySem.Spec PyProof.Rows L2
section
variable {K : PySem.W.Frag} {H H' : Hp} {Q : VK}
theorem eqv_self {d : PyData} (h : SeqAt.shaped d = true) : PyData.eqv d d = true := SeqAt.eqv_refl d (SeqAt.canLay_of_shaped h)
theorem ne_self {x y : V} {d : PyData} (hx : Jv.Dv K H x d) (hy : Jv.Dv K H y d) (h : SeqAt.shaped d = true) (q : Q (.bl false) H) : rNeD K x y H Q :=
  ⟨d, d, hx.dp, hy.dp, h, h, by rw [eqv_self h]; exact q⟩
theorem eq_self {x y : V} {d : PyData} (hx : Jv.Dv K H x d) (hy : Jv.Dv K H y d) (h : SeqAt.shaped d = true) (q : Q (.bl true) H) : rEqD K x y H Q :=
  ⟨d, d, hx.dp, hy.dp, h, h, by rw [eqv_self h]; exact q⟩
theorem tupI {a : Addr} {ns : List Int} (h : SqT K H a (ns.map V.int)) : Jv.Dv K H (.ref a) (.tuple (ns.map .int)) := .tup h (dv_ints ns)
theorem lstI {a : Addr} {ns : List Int} (h : H a = some (.lst (ns.map V.int))) : Jv.Dv K H (.ref a) (.list (ns.map .int)) := .lst h (dv_ints ns)
theorem lcFL {tt : TT} {te : TE} {σ : L2.St} {a : Addr} {i j : Nat} {ns : List Int} (hv : σ[i]? = some (some (.ref a))) (e : H a = some (.lst (ns.map V.int))) (f : Int → Bool) (few : ns.length ≤ 1000)
    (ht : ∀ z H1, z ∈ ns → Same H H1 → ∀ R : Bool → Hp → Prop, (∀ H2, Same H1 H2 → R (f z) H2) → tt ((σ.set j none).set j (some (.int z))) H1 R)
    (hs : ∀ z H1, ∀ P : VK, P (.int z) H1 → te ((σ.set j none).set j (some (.int z))) H1 P)
    (hd : ∀ D H1, Same H H1 → H D = none → H1 D = some (.lst ((ns.filter f).map V.int)) → Q (.ref D) H1) : tLc (iList K (tVar i)) (gName j) tt te [j] σ H Q :=
  ⟨_, hv, a, rfl, ⟨_, sqL_at e⟩, lcFW walk_list (fun _ s => s.seq (sqL_at e)) f few ht hs hd⟩
theorem SqT.lstU {o : HO} {a b : Addr} {us xs : List V} (ha : H a = some (.lst us)) (h : SqT K H b xs) : SqT K (upd H a o) b xs := by
  rcases h with (h | ⟨u, h⟩) | h
  · exact .inl (.inl (kpO h fun e => by rw [e, ha] at h; cases h))
  · exact .inl (.inr ⟨u, kpO h fun e => by rw [e, ha] at h; cases h⟩)
  · exact .inr h
end
end Jv
namespace K09
open PySem PySem.Spec PyProof.Rows L2
/-! ### one value, asked -/
def FzD (H : Hp) (x : V) (d : PyData) : Prop := ∀ e r, d = .tuple (e :: r) → ∃ p, x = .ref p ∧ Jv.FzT H p
theorem FzD.same {H H' : Hp} {x : V} {d : PyData} (h : FzD H x d) (s : Same H H') : FzD H' x d := fun e r z => let ⟨p, a, b⟩ := h e r z; ⟨p, a, b.same s⟩
/-- what stands of a value that is asked -/
structure Thing (K : PySem.W.Frag) (H : Hp) (x : V) (d : PyData) : Prop where
  dw : Jv.Dw K H x d
  few : few d
  fz : FzD H x d
  can : ∀ ds, Jv.seqD d = some ds → d.canLay0 = true
  ok : Jv.ShowOk d
theorem Thing.same {K : PySem.W.Frag} {H H' : Hp} {x : V} {d : PyData} (h : Thing K H x d) (s : Same H H') : Thing K H' x d := ⟨h.dw.same s, h.few, h.fz.same s, h.can, h.ok⟩
def sp_Lasked (K : PySem.W.Frag) : Sp := fun vs H Q _ => ∃ x d L f, vs = [x, .int L, .bl f] ∧ (0 ≤ L ∧ L ≤ 100) ∧ Thing K H x d ∧ ∀ H', Same H H' → Q (.bl true) H'
def sidesI (f : Bool) (ns : List Int) : List (List Int) := if f = true then [Jv.evr 0 4 ns, Jv.evr 2 4 ns, Jv.evr 1 2 ns] else [Jv.evr 0 2 ns, Jv.evr 1 2 ns, []]
def placeI (f : Bool) (n : Nat) : Nat := if f = true then [0, 2, 1, 2].getD (n % 4) 0 else n % 2
theorem placeI_lt {f : Bool} {n : Nat} : placeI f n < 3 := by
  unfold placeI
  cases f with
  | false => rw [if_neg Bool.false_ne_true]; omega
  | true =>
    rw [if_pos rfl]
    have h : n % 4 = 0 ∨ n % 4 = 1 ∨ n % 4 = 2 ∨ n % 4 = 3 := by omega
    rcases h with h | h | h | h <;> rw [h] <;> decide
theorem sides_snoc {f : Bool} {pre : List Int} {z : Int} : ∃ c, (sidesI f pre)[placeI f pre.length]? = some c ∧ sidesI f (pre ++ [z]) = (sidesI f pre).set (placeI f pre.length) (c ++ [z]) := by
  unfold sidesI placeI
  generalize hn : pre.length = n
  cases f with
  | false =>
    simp only [if_neg Bool.false_ne_true]
    rw [Jv.evr_snoc (by decide), Jv.evr_snoc (by decide), hn]
    have h : n % 2 = 0 ∨ n % 2 = 1 := by omega
    rcases h with h | h
    · rw [h]
      refine ⟨_, rfl, ?_⟩
      rw [if_pos (show 0 ≤ n ∧ (n - 0) % 2 = 0 by omega), if_neg (show ¬ (1 ≤ n ∧ (n - 1) % 2 = 0) by omega), List.append_nil]; rfl
    · rw [h]
      refine ⟨_, rfl, ?_⟩
      rw [if_neg (show ¬ (0 ≤ n ∧ (n - 0) % 2 = 0) by omega), if_pos (show 1 ≤ n ∧ (n - 1) % 2 = 0 by omega), List.append_nil]; rfl
  | true =>
    simp only [if_true]
    rw [Jv.evr_snoc (by decide), Jv.evr_snoc (by decide), Jv.evr_snoc (by decide), hn]
    have h : n % 4 = 0 ∨ n % 4 = 1 ∨ n % 4 = 2 ∨ n % 4 = 3 := by omega
    rcases h with h | h | h | h
    · rw [h]
      refine ⟨_, rfl, ?_⟩
      rw [if_pos (show 0 ≤ n ∧ (n - 0) % 4 = 0 by omega), if_neg (show ¬ (2 ≤ n ∧ (n - 2) % 4 = 0) by omega), if_neg (show ¬ (1 ≤ n ∧ (n - 1) % 2 = 0) by omega), List.append_nil, List.append_nil]; rfl
    · rw [h]
      refine ⟨_, rfl, ?_⟩
      rw [if_neg (show ¬ (0 ≤ n ∧ (n - 0) % 4 = 0) by omega), if_neg (show ¬ (2 ≤ n ∧ (n - 2) % 4 = 0) by omega), if_pos (show 1 ≤ n ∧ (n - 1) % 2 = 0 by omega), List.append_nil, List.append_nil]; rfl
    · rw [h]
      refine ⟨_, rfl, ?_⟩
      rw [if_neg (show ¬ (0 ≤ n ∧ (n - 0) % 4 = 0) by omega), if_pos (show 2 ≤ n ∧ (n - 2) % 4 = 0 by omega), if_neg (show ¬ (1 ≤ n ∧ (n - 1) % 2 = 0) by omega), List.append_nil, List.append_nil]; rfl
    · rw [h]
      refine ⟨_, rfl, ?_⟩
      rw [if_neg (show ¬ (0 ≤ n ∧ (n - 0) % 4 = 0) by omega), if_neg (show ¬ (2 ≤ n ∧ (n - 2) % 4 = 0) by omega), if_pos (show 1 ≤ n ∧ (n - 1) % 2 = 0 by omega), List.append_nil, List.append_nil]; rfl
theorem sides_len {f : Bool} {ns c : List Int} {k : Nat} (h : (sidesI f ns)[k]? = some c) : c.length ≤ ns.length := by
  have m := List.mem_of_getElem? h
  unfold sidesI at m
  cases f with
  | false =>
    rw [if_neg Bool.false_ne_true] at m
    simp only [List.mem_cons, List.not_mem_nil, or_false] at m
    rcases m with rfl | rfl | rfl
    · exact Jv.evr_len _ _ _
    · exact Jv.evr_len _ _ _
    · exact Nat.zero_le _
  | true =>
    rw [if_pos rfl] at m
    simp only [List.mem_cons, List.not_mem_nil, or_false] at m
    rcases m with rfl | rfl | rfl <;> exact Jv.evr_len _ _ _
theorem sides_n {f : Bool} {ns : List Int} : (sidesI f ns).length = 3 := by
  unfold sidesI; cases f <;> rfl
theorem sides_0 {f : Bool} : sidesI f [] = [[], [], []] := by
  unfold sidesI; cases f <;> rfl
theorem sides_w {f : Bool} {ns : List Int} : (sidesI f ns)[0]? = some (wordsI f 0 ns) ∧ (sidesI f ns)[1]? = some (wordsI f 1 ns) := by
  unfold sidesI wordsI; cases f <;> exact ⟨rfl, rfl⟩
/-- a list of lists of numbers, each at its own place -/
structure Nest (H : Hp) (g : Addr) (qs : List Addr) (cs : List (List Int)) : Prop where
  hg : H g = some (.lst (qs.map V.ref))
  ln : qs.length = cs.length
  nd : (g :: qs).Nodup
  at_ : ∀ (k : Nat) a c, qs[k]? = some a → cs[k]? = some c → H a = some (.lst (c.map V.int))
theorem Nest.put {H : Hp} {g a : Addr} {qs : List Addr} {cs : List (List Int)} {k : Nat} {c : List Int} (h : Nest H g qs cs) (ha : qs[k]? = some a) : Nest (upd H a (.lst (c.map V.int))) g qs (cs.set k c) := by
  have nd := List.nodup_cons.mp h.nd
  have ma := List.mem_of_getElem? ha
  have ng : g ≠ a := fun e => nd.1 (by rw [e]; exact ma)
  refine ⟨by rw [upd_ne ng]; exact h.hg, by rw [List.length_set]; exact h.ln, h.nd, fun j b e hb he => ?_⟩
  by_cases hj : j = k
  · subst hj
    rw [ha] at hb
    obtain rfl := Option.some.inj hb
    rw [List.getElem?_set_self (by rw [← h.ln]; exact (List.getElem?_eq_some_iff.mp ha).1)] at he
    rw [upd_same, ← Option.some.inj he]
  · rw [List.getElem?_set_ne (fun e => hj e.symm)] at he
    have hne : b ≠ a := fun e => hj (by
      subst e
      exact (List.getElem?_inj (List.getElem?_eq_some_iff.mp hb).1 nd.2).mp (hb.trans ha.symm))
    rw [upd_ne hne]; exact h.at_ j b e hb he
theorem Nest.same {H H' : Hp} {g : Addr} {qs : List Addr} {cs : List (List Int)} (h : Nest H g qs cs) (s : Same H H') : Nest H' g qs cs := ⟨s _ _ h.hg, h.ln, h.nd, fun k a c x y => s _ _ (h.at_ k a c x y)⟩
theorem ints_inj : ∀ {a b : List Int}, a.map PyData.int = b.map PyData.int → a = b
  | [], [], _ => rfl
  | [], _ :: _, h => by cases h
  | _ :: _, [], h => by cases h
  | x :: a, y :: b, h => by
    obtain ⟨h1, h2⟩ := List.cons.inj h
    cases h1
    rw [ints_inj h2]
theorem row_at {K : PySem.W.Frag} {H : Hp} {x : V} {d : PyData} {ns : List Int} (t : Thing K H x d) (e : Jv.seqD d = some (ns.map .int)) : ∃ a, x = .ref a ∧ (SqL K H a (ns.map V.int) ∨ (SqT K H a (ns.map V.int) ∧ (ns ≠ [] → Jv.FzT H a))) := by
  have hd := t.dw.seq e
  cases hd with
  | lst h al => cases e; rw [Jv.dv_intsV al] at h; exact ⟨_, rfl, .inl (Jv.sqL_at h)⟩
  | tup h al =>
    cases e
    rw [Jv.dv_intsV al] at h
    refine ⟨_, rfl, .inr ⟨h, fun hn => ?_⟩⟩
    cases ns with
    | nil => exact absurd rfl hn
    | cons n r =>
      obtain ⟨p, e2, f⟩ := t.fz _ _ rfl
      cases e2
      exact f
  | _ => cases e
section
variable {P : Program} {w : World} {K : PySem.W.Frag} {mg : Str → Option Value} {base : Heap}
set_option maxHeartbeats 8000000 in
theorem ok_Lasked (T : Tx) (O : Ok K mg T) : Jv.FnG P w K mg base CX0 6 T.f_Lasked T.d_Lasked ["_law_thing", "_law_ladder", "_law_foes"] (sp_Lasked K) := by
  refine Jv.fun_okG O.F_Lasked sc_Lasked (fun vs H Q E h => by obtain ⟨_, _, _, _, rfl, _⟩ := h; rfl) (fun cdv A outer s H vs Q E gd0 hr h => ?_)
  have gd := Jv.gd_body (CX := CX0) (P := P) (w := w) (K := K) (mg := mg) (base := base) (N := ["_law_thing", "_law_ladder", "_law_foes", "_law_due", "_law_kept", "_law_row_here", "_law_told", "_law_numbers", "_law_side", "_law_sides", "_law_at", "_law_place", "_law_parts", "_law_one"]) (qual := "_law_asked") (scope := defScope s_Lasked) (f := T.f_Lasked) (cd := cdv) (outer := outer) (s := s) (H := H) (E := E) gd0
  obtain ⟨x, d, L, f, rfl, hL, t, q⟩ := h
  refine ⟨_, (pss_cons (ps_set (i := 3) sc_Lasked.nd rfl (Or.inl rfl) (pe_call (ok_Lis_row T O) (hr.mono (by decide)) (by rfl) O.m_Lis_row O.F_Lis_row.kp O.b_Lis_row .nil pass0 (pa_cons (pv 0) (pa_cons (pv 1) (pa_cons (pv 2) pa_nil)))))
  (pss_cons (ps_set (i := 4) sc_Lasked.nd rfl (Or.inl rfl) (pe_callB (r := Jv.rReprW K) (Jv.call_reprW gd hr.units) (by rfl) O.z_repr (by decide +kernel) (pa_cons (pv 0) pa_nil)))
  (pss_cons (ps_if (pt_not (pt_val (pe_call (ok_Lis T O) (hr.mono (by decide)) (by rfl) O.m_Lis O.F_Lis.kp O.b_Lis .nil pass0 (pa_cons (pe_call (ok_is_row T O) (hr.mono (by decide)) (by rfl) O.m_is_row O.F_is_row.kp O.b_is_row .nil pass0 (pa_cons (pv 0) (pa_cons (pv 1) (pa_cons (pv 2) pa_nil)))) (pa_cons (pv 3) pa_nil))))) (pss_one (ps_ret pe_bl)) pss_nil)
  (pss_cons (ps_if (pt_not (pt_val (pv 3))) (pss_one (ps_ret (pe_and (pe_call (ok_Lrefused T O) (hr.mono (by decide)) (by rfl) O.m_Lrefused O.F_Lrefused.kp O.b_Lrefused .nil pass0 (pa_cons (pv 0) (pa_cons (pv 1) (pa_cons (pv 2) pa_nil)))) (pe_one (pe_cmpR op_eq (pe_callB (r := Jv.rReprW K) (Jv.call_reprW gd hr.units) (by rfl) O.z_repr (by decide +kernel) (pa_cons (pv 0) pa_nil)) (pv 4) (nomark _)))))) pss_nil)
  (pss_cons (ps_set (i := 5) sc_Lasked.nd rfl (Or.inl rfl) (pe_callTy (r := Jv.rTupOf K) call_tuple_of (by rfl) O.z_tuple (by decide +kernel) (pa_cons (pv 0) pa_nil)))
  (pss_cons (ps_set (i := 6) sc_Lasked.nd rfl (Or.inl rfl) (pe_call (E := E0) (ok_check_row T O) (hr.mono (by decide)) (by rfl) O.m_check_row O.F_check_row.kp O.b_check_row .nil passL (pa_cons (pv 0) (pa_cons (pv 1) (pa_cons (pv 2) pa_nil)))))
  (pss_cons (ps_if (PW.pt (pw_or (pt_not (pt_val (pe_callB (r := rIsi K) call_isi (by rfl) O.z_isinstance (by decide +kernel) (pa_cons (pv 6) (pa_cons (pe_bltn (v := .ty "tuple") (by rfl) O.z_tuple (by decide +kernel) rfl) pa_nil))))) (pw_or (pt_cmpR (r := rNeD K) (op_neD hr.units) (pv 6) (pv 5) (nomark _)) (pw_or1 (pt_not (pt_val (pe_call (ok_Lis T O) (hr.mono (by decide)) (by rfl) O.m_Lis O.F_Lis.kp O.b_Lis .nil pass0 (pa_cons (pe_call (ok_is_ended T O) (hr.mono (by decide)) (by rfl) O.m_is_ended O.F_is_ended.kp O.b_is_ended .nil pass0 (pa_cons (pv 0) (pa_cons (pv 2) pa_nil))) (pa_cons (pe_call (ok_Lover T O) (hr.mono (by decide)) (by rfl) O.m_Lover O.F_Lover.kp O.b_Lover .nil pass0 (pa_cons (pv 5) (pa_cons (pv 2) pa_nil))) pa_nil))))))))) (pss_one (ps_ret pe_bl)) pss_nil)
  (pss_cons (ps_set (i := 7) sc_Lasked.nd rfl (Or.inl rfl) (pe_lst (pa_cons (pe_call (ok_standing_at T O) (hr.mono (by decide)) (by rfl) O.m_standing_at O.F_standing_at.kp O.b_standing_at .nil pass0 (pa_cons (pv 0) pa_nil)) (pa_cons (pe_call (ok_end_at T O) (hr.mono (by decide)) (by rfl) O.m_end_at O.F_end_at.kp O.b_end_at .nil pass0 (pa_cons (pv 0) (pa_cons (pv 2) pa_nil))) pa_nil))))
  (pss_cons (ps_if (PW.pt (pw_or (pt_cmpR (r := rNeD K) (op_neD hr.units) (pv 7) (pe_lst (pa_cons (pe_callB (r := rMax K) (cr_max rfl) (by rfl) O.z_max (by decide +kernel) (pa_cons (pe_op op_cat (pe_lst (pa_cons pe_int pa_nil)) (pe_callTy (r := Jv.rListOf K) call_list_of (by rfl) O.z_list (by decide +kernel) (pa_cons (pv 5) pa_nil))) pa_nil)) (pa_cons (pe_call (ok_Lend T O) (hr.mono (by decide)) (by rfl) O.m_Lend O.F_Lend.kp O.b_Lend .nil pass0 (pa_cons (pv 5) (pa_cons (pv 2) pa_nil))) pa_nil))) (nomark _)) (pw_or1 (pt_cmpR (r := rNeD K) (op_neD hr.units) (pe_lc (own := [("_law_one", 13)]) (by rfl) sc_Lasked.nd (show PI _ _ _ (iList K _) from pi_list (pv 7)) (blkOk_by (own := [("_law_one", 13)]) (N := ["_law_thing", "_law_ladder", "_law_foes", "_law_due", "_law_kept", "_law_row_here", "_law_told", "_law_numbers", "_law_side", "_law_sides", "_law_at", "_law_place", "_law_parts", "_law_one"]) (sc := defScope s_Lasked) (scope := ({ kind := .function, names := [(".0", .local), ("_law_one", .local), ("_law_whole", .globalImplicit)], isGenerator := false, isCoroutine := false } : Scope)) (by decide +kernel)) (fun _ _ _ _ _ => (pg_name (i := 13) sc_Lasked.nd rfl (Or.inl rfl))) (fun _ _ _ _ _ => (pts_one (pt_not (pt_val (pe_call (ok_Lwhole T O) (hr.mono (by decide)) (by rfl) O.m_Lwhole O.F_Lwhole.kp O.b_Lwhole .nil pass0 (pa_cons (pv 13) pa_nil)))))) (fun _ _ _ _ _ => (pv 13))) (pe_lst pa_nil) (nomark _))))) (pss_one (ps_ret pe_bl)) pss_nil)
  (pss_cons (ps_set (i := 8) sc_Lasked.nd rfl (Or.inl rfl) (pe_call (ok_speaker_at T O) (hr.mono (by decide)) (by rfl) O.m_speaker_at O.F_speaker_at.kp O.b_speaker_at .nil pass0 (pa_cons (pv 0) (pa_cons (pv 2) pa_nil))))
  (pss_cons (ps_if (PW.pt (pw_or (pt_cmpR op_ne (pv 8) (pe_call (ok_Lturn T O) (hr.mono (by decide)) (by rfl) O.m_Lturn O.F_Lturn.kp O.b_Lturn .nil pass0 (pa_cons (pv 5) (pa_cons (pv 2) pa_nil))) (nomark _)) (pw_or1 (pt_val (pe_callB (r := rIsi K) call_isi (by rfl) O.z_isinstance (by decide +kernel) (pa_cons (pv 8) (pa_cons (pe_bltn (v := .ty "bool") (by rfl) O.z_bool (by decide +kernel) rfl) pa_nil))))))) (pss_one (ps_ret pe_bl)) pss_nil)
  (pss_cons (ps_set (i := 9) sc_Lasked.nd rfl (Or.inl rfl) (pe_lst (pa_cons (pe_lst pa_nil) (pa_cons (pe_lst pa_nil) (pa_cons (pe_lst pa_nil) pa_nil)))))
  (pss_cons (ps_for PassesOwn.never rfl (pi_range1 (by rfl) O.z_range (pa_cons (pe_callB (r := Jv.rLenK K) Jv.cr_len (by rfl) O.z_len (by decide +kernel) (pa_cons (pv 5) pa_nil)) pa_nil)) (pg_name (i := 10) sc_Lasked.nd rfl (Or.inl rfl)) (C8.pss_cut (ps_set (i := 11) sc_Lasked.nd rfl (Or.inl rfl) (pe_ifExp (pt_val (pv 2)) (pe_ix (r := rIxL K) ix_list (pe_lst (pa_cons pe_int (pa_cons pe_int (pa_cons pe_int (pa_cons pe_int pa_nil))))) (pe_op op_mod (pe_callTy (r := Jv.rInt) Jv.cr_int (by rfl) O.z_int (by decide +kernel) (pa_cons (pv 10) pa_nil)) pe_int) (fun _ _ => rfl)) (pe_op op_mod (pe_callTy (r := Jv.rInt) Jv.cr_int (by rfl) O.z_int (by decide +kernel) (pa_cons (pv 10) pa_nil)) pe_int)))
  (pss_one (ps_expr (show PE _ _ (tBM K _ _ _ _) from pe_bm PySem.F.plainAttrs_list PySem.F.slot_list_append PySem.F.type_list_append mt_append (pe_ix (r := rIxL K) ix_list (pv 9) (pv 11) (fun _ _ => rfl)) (pa_cons (pe_ix (r := rIx K) ix_seq (pv 5) (pv 10) (fun _ _ => rfl)) pa_nil))))))
  (pss_cons (ps_set (i := 12) sc_Lasked.nd rfl (Or.inl rfl) (pe_lst (pa_cons (pe_call (ok_words_of T O) (hr.mono (by decide)) (by rfl) O.m_words_of O.F_words_of.kp O.b_words_of .nil pass0 (pa_cons (pv 0) (pa_cons (pv 2) (pa_cons pe_int pa_nil)))) (pa_cons (pe_call (ok_words_of T O) (hr.mono (by decide)) (by rfl) O.m_words_of O.F_words_of.kp O.b_words_of .nil pass0 (pa_cons (pv 0) (pa_cons (pv 2) (pa_cons pe_int pa_nil)))) pa_nil))))
  (C8.pss_cut (ps_if (pt_val (pv 2)) (pss_one (ps_expr (show PE _ _ (tBM K _ _ _ _) from pe_bm PySem.F.plainAttrs_list PySem.F.slot_list_append PySem.F.type_list_append mt_append (pv 12) (pa_cons (pe_call (ok_foe_words_of T O) (hr.mono (by decide)) (by rfl) O.m_foe_words_of O.F_foe_words_of.kp O.b_foe_words_of .nil pass0 (pa_cons (pv 0) pa_nil)) pa_nil)))) pss_nil)
  (pss_cons (ps_for PassesOwn.never rfl (pi_range1 (by rfl) O.z_range (pa_cons (pe_callB (r := Jv.rLenK K) Jv.cr_len (by rfl) O.z_len (by decide +kernel) (pa_cons (pv 12) pa_nil)) pa_nil)) (pg_name (i := 11) sc_Lasked.nd rfl (Or.inl rfl)) (pss_one (ps_if (PW.pt (pw_or (pt_not (pt_val (pe_callB (r := rIsi K) call_isi (by rfl) O.z_isinstance (by decide +kernel) (pa_cons (pe_ix (r := rIxL K) ix_list (pv 12) (pv 11) (fun _ _ => rfl)) (pa_cons (pe_bltn (v := .ty "tuple") (by rfl) O.z_tuple (by decide +kernel) rfl) pa_nil))))) (pw_or1 (pt_cmpR (r := rNeD K) (op_neD hr.units) (pe_callTy (r := Jv.rListOf K) call_list_of (by rfl) O.z_list (by decide +kernel) (pa_cons (pe_ix (r := rIxL K) ix_list (pv 12) (pv 11) (fun _ _ => rfl)) pa_nil)) (pe_ix (r := rIxL K) ix_list (pv 9) (pv 11) (fun _ _ => rfl)) (nomark _))))) (pss_one (ps_ret pe_bl)) pss_nil)))
  (pss_one (ps_ret (pe_cmpR op_eq (pe_callB (r := Jv.rReprW K) (Jv.call_reprW gd hr.units) (by rfl) O.z_repr (by decide +kernel) (pa_cons (pv 0) pa_nil)) (pv 4) (nomark _)))))))))))))))))))), ?_⟩
  walk_at "r"
  refine ⟨x, d, L, f, rfl, hL, t.dw, t.few, fun H1 s1 => ?_⟩
  have t1 := t.same s1
  walk_at "r"
  refine ⟨x, d, rfl, t1.dw, t1.can, t1.ok, ?_⟩
  walk_at "r"
  refine ⟨x, d, L, f, rfl, t1.dw, t1.few, fun H2 s2 => ?_⟩
  walk_at "r"
  refine ⟨_, _, rfl, ?_⟩
  rw [decide_eq_true rfl]
  have t2 := t1.same s2
  have s12 := s1.trans s2
  clear t t1 s1 s2
  walk_at "r"
  cases hb : isRow L f d with
  | false =>
    walk_at "r"
    refine ⟨x, d, L, f, rfl, t2.dw, t2.few, hb, fun H3 s3 => ?_⟩
    have t3 := t2.same s3
    walk_at "r"
    refine ⟨x, d, rfl, t3.dw, t3.can, t3.ok, ?_⟩
    walk_at "r"
    rw [decide_eq_true rfl]
    exact q _ (s12.trans s3)
  | true =>
    obtain ⟨ns, en, hns⟩ := isRow_ints hb
    obtain ⟨xa, rfl, hxa⟩ := row_at t2 en
    have sk2 : Jv.Sk K H2 (.ref xa) (ns.map V.int) := ⟨xa, rfl, hxa.elim .inl fun h => .inr h.1⟩
    have n60 : ns.length ≤ 60 := by have := t2.few _ en; rw [List.length_map] at this; exact this
    walk_at "r"
    refine sk2.tup fun rh H3 s3 srh => ?_
    have t3 := t2.same s3
    walk_at "r"
    refine ⟨.ref xa, d, L, f, rfl, t3.dw, t3.few, .inl ⟨hb, fun ns' tt H4 en' s4 stt => ?_⟩⟩
    rw [en] at en'
    obtain rfl : ns = ns' := ints_inj (Option.some.inj en')
    have t4 := t3.same s4
    have srh4 := Jv.Same.sqT s4 srh
    have sk4 := (sk2.same s3).same s4
    have s24 := s3.trans s4
    clear t2 t3 s3 s4 srh en' sk2
    walk_at "r"
    refine Jv.d_isT (Jv.tupI stt) ?_
    walk_at "r"
    refine Jv.ne_self (Jv.tupI stt) (Jv.tupI srh4) (Jv.shapedT _) ?_
    walk_at "r"
    refine ⟨_, f, ns, rfl, sk4, ?_⟩
    walk_at "r"
    refine ⟨_, f, ns, rfl, ⟨rh, rfl, .inr srh4⟩, ?_⟩
    refine ⟨_, _, rfl, ?_⟩
    rw [decide_eq_true rfl]
    walk_at "r"
    have nn : ∀ n ∈ ns, 0 ≤ n := fun n m => (hns n m).1
    refine ⟨_, ns, rfl, sk4, nn, ?_⟩
    walk_at "r"
    refine ⟨xa, f, ns, rfl, ?_, nn, ?_⟩
    · obtain ⟨a, e1, e2⟩ := row_at t4 en
      cases e1
      exact e2
    walk_at "r"
    intro nb hnb
    have s5 := Jv.same_new (u := .lst [V.int (Jv.topI ns), V.int (endI f ns)]) hnb
    have enb : upd H4 nb (.lst [V.int (Jv.topI ns), V.int (endI f ns)]) nb = some (.lst [V.int (Jv.topI ns), V.int (endI f ns)]) := upd_same
    generalize upd H4 nb (.lst [V.int (Jv.topI ns), V.int (endI f ns)]) = H5 at s5 enb
    have t5 := t4.same s5
    have srh5 := Jv.Same.sqT s5 srh4
    have s25 := s24.trans s5
    clear t4 srh4 sk4 s24 s5 stt hnb
    have skr5 : Jv.Sk K H5 (.ref rh) (ns.map V.int) := ⟨rh, rfl, .inr srh5⟩
    walk_at "r"
    intro t0 h0
    have s6 := Jv.same_new (u := .lst [V.int 0]) h0
    have e0 : upd H5 t0 (.lst [V.int 0]) t0 = some (.lst [V.int 0]) := upd_same
    generalize upd H5 t0 (.lst [V.int 0]) = H6 at s6 e0
    walk_at "r"
    refine (skr5.same s6).list fun l H7 hl s7 el => ?_
    refine Jv.r_cat (s7 _ _ e0) el (Jv.small_of (by simp; omega)) fun p H8 hp s8 ep => ?_
    walk_at "r"
    refine Jv.maxL ep ?_
    walk_at "r"
    have s58 := s6.trans (s7.trans s8)
    refine ⟨_, f, ns, rfl, skr5.same s58, n60, fun H9 s9 => ?_⟩
    walk_at "r"
    intro nc hnc
    have s10 := Jv.same_new (u := .lst [V.int (Jv.topI ns), V.int (endI f ns)]) hnc
    have enc : upd H9 nc (.lst [V.int (Jv.topI ns), V.int (endI f ns)]) nc = some (.lst [V.int (Jv.topI ns), V.int (endI f ns)]) := upd_same
    generalize upd H9 nc (.lst [V.int (Jv.topI ns), V.int (endI f ns)]) = H10 at s10 enc
    have s510 := s58.trans (s9.trans s10)
    have enb10 := s510 _ _ enb
    refine Jv.ne_self (Jv.lstI (ns := [Jv.topI ns, endI f ns]) enb10) (Jv.lstI (ns := [Jv.topI ns, endI f ns]) enc) (Jv.shapedL _) ?_
    have t10 := t5.same s510
    have srh10 := Jv.Same.sqT s510 srh5
    have s210 := s25.trans s510
    clear t5 srh5 skr5 s25 s510 s58 s6 s7 s8 s9 s10 enc e0 el ep hl hp hnc h0 enb
    walk_at "r"
    refine Jv.lcFL (K := K) (j := 13) (i := 7) (ns := [Jv.topI ns, endI f ns]) rfl enb10 (fun _ => false) (by simp) (fun z Hz hz sz R hR => ?_) (fun z Hz P hP => ?_) (fun D H11 s11 hnD eD => ?_)
    · walk_at "r"
      refine ⟨_, .int z, rfl, .int z, ?_⟩
      walk_at "r"
      exact hR _ (Same.refl _)
    · walk_at "r"
      exact hP
    walk_at "r"
    intro em hem
    have eD' : H11 D = some (.lst (([] : List Int).map V.int)) := eD
    refine Jv.ne_self (Jv.lstI (Jv.kp eD' hem)) (Jv.lstI (ns := []) upd_same) (Jv.shapedL _) ?_
    have s12 := s11.trans (Jv.same_new (u := .lst []) hem)
    generalize upd H11 em (.lst []) = H12 at s12 ⊢
    have t12 := t10.same s12
    have srh12 := Jv.Same.sqT s12 srh10
    have s212 := s210.trans s12
    clear t10 srh10 s210 s11 s12 eD eD' enb10 hem hnD D H11
    obtain ⟨sk12, skr12⟩ : Jv.Sk K H12 (.ref xa) (ns.map V.int) ∧ Jv.Sk K H12 (.ref rh) (ns.map V.int) := by
      obtain ⟨a, e1, e2⟩ := row_at t12 en
      exact ⟨⟨a, e1, e2.elim .inl fun h => .inr h.1⟩, rh, rfl, .inr srh12⟩
    walk_at "r"
    refine ⟨_, f, ns, rfl, sk12, ?_⟩
    walk_at "r"
    refine ⟨_, f, ns, rfl, skr12, ?_⟩
    have dO : Jv.Dv K H12 (oI (sideI f ns)) (match sideI f ns with | none => .none | some i => .int i) := by
      cases sideI f ns with
      | none => exact .non
      | some i => exact .int i
    have sc0 : scal (oI (sideI f ns)) (oI (sideI f ns)) = true := by cases sideI f ns <;> rfl
    have nb0 : Jv.boolD (match sideI f ns with | none => PyData.none | some i => .int i) = false := by cases sideI f ns <;> rfl
    refine Jv.r_ne sc0 ?_
    rw [decide_eq_true rfl]
    walk_at "r"
    rw [nb0]
    walk_at "r"
    intro q0 hq0
    walk_at "r"
    intro q1 hq1
    walk_at "r"
    intro q2 hq2
    walk_at "r"
    intro g hg
    have n10 : q1 ≠ q0 := fun e => by rw [e, upd_same] at hq1; cases hq1
    have h1 : H12 q1 = none := by rw [upd_ne n10] at hq1; exact hq1
    have n21 : q2 ≠ q1 := fun e => by rw [e, upd_same] at hq2; cases hq2
    rw [upd_ne n21] at hq2
    have n20 : q2 ≠ q0 := fun e => by rw [e, upd_same] at hq2; cases hq2
    have h2 : H12 q2 = none := by rw [upd_ne n20] at hq2; exact hq2
    have ng2 : g ≠ q2 := fun e => by rw [e, upd_same] at hg; cases hg
    rw [upd_ne ng2] at hg
    have ng1 : g ≠ q1 := fun e => by rw [e, upd_same] at hg; cases hg
    rw [upd_ne ng1] at hg
    have ng0 : g ≠ q0 := fun e => by rw [e, upd_same] at hg; cases hg
    have hg0 : H12 g = none := by rw [upd_ne ng0] at hg; exact hg
    have free : ∀ a ∈ [q0, q1, q2], H12 a = none := fun a m => by
      simp only [List.mem_cons, List.not_mem_nil, or_false] at m
      rcases m with rfl | rfl | rfl
      · exact hq0
      · exact h1
      · exact h2
    have nest0 : Nest (upd (upd (upd (upd H12 q0 (.lst [])) q1 (.lst [])) q2 (.lst [])) g (.lst [.ref q0, .ref q1, .ref q2])) g [q0, q1, q2] (sidesI f []) := by
      refine ⟨upd_same, by rw [sides_0]; rfl, by simp [ng0, ng1, ng2, n10.symm, n20.symm, n21.symm], fun k a c hk hc => ?_⟩
      rw [sides_0] at hc
      match k, hk, hc with
      | 0, hk, hc => cases hk; cases hc; rw [upd_ne ng0.symm, upd_ne n20.symm, upd_ne n10.symm, upd_same]; rfl
      | 1, hk, hc => cases hk; cases hc; rw [upd_ne ng1.symm, upd_ne n21.symm, upd_same]; rfl
      | 2, hk, hc => cases hk; cases hc; rw [upd_ne ng2.symm, upd_same]; rfl
      | n + 3, hk, hc => simp at hk
    have s13 : Same H12 (upd (upd (upd (upd H12 q0 (.lst [])) q1 (.lst [])) q2 (.lst [])) g (.lst [.ref q0, .ref q1, .ref q2])) := fun b o hb => by
      rw [upd_ne (ne_of_none hb hg0), upd_ne (ne_of_none hb h2), upd_ne (ne_of_none hb h1), upd_ne (ne_of_none hb hq0)]; exact hb
    generalize upd (upd (upd (upd H12 q0 (.lst [])) q1 (.lst [])) q2 (.lst [])) g (.lst [.ref q0, .ref q1, .ref q2]) = H13 at nest0 s13
    clear hq1 hq2 hg
    walk_at "r"
    rw [List.length_map]
    refine ⟨_, rfl, by omega, by omega, ?_⟩
    refine for_range (lo := 0) (n := ((ns.length : Nat) : Int).toNat) (fun j σ H' => ∃ y10 y11, σ = [some (.ref xa), some (.int L), some (.bl f), some (.bl true), some (.str (Jv.shownW d)), some (.ref rh), some (.ref tt), some (.ref nb), some (oI (sideI f ns)), some (.ref g), y10, y11, none, none] ∧ Same H12 H' ∧ Nest H' g [q0, q1, q2] (sidesI f (ns.take j))) ⟨_, _, rfl, s13, nest0⟩ ?_ ?_
    · rintro j σ H14 hj ⟨y10, y11, rfl, s14, nest⟩
      rw [Int.toNat_natCast] at hj
      refine ⟨fun σ H' => σ = [some (.ref xa), some (.int L), some (.bl f), some (.bl true), some (.str (Jv.shownW d)), some (.ref rh), some (.ref tt), some (.ref nb), some (oI (sideI f ns)), some (.ref g), some (.int (0 + (j : Int))), some (.int (placeI f j : Nat)), none, none] ∧ Same H14 H', ?_, ?_⟩
      · cases f with
        | false =>
          walk_at "r"
          refine ⟨?_, Same.refl _⟩
          have : ((0 : Int) + (j : Int)) % 2 = ((placeI false j : Nat) : Int) := by unfold placeI; rw [if_neg Bool.false_ne_true]; omega
          rw [this]; rfl
        | true =>
          walk_at "r"
          intro lp hlp
          walk_at "r"
          have e4 : ((0 : Int) + (j : Int)) % 4 = ((j % 4 : Nat) : Int) := by omega
          rw [e4]
          have at4 : [V.int 0, V.int 2, V.int 1, V.int 2][j % 4]? = some (.int (placeI true j : Nat)) := by
            unfold placeI; rw [if_pos rfl]
            have h : j % 4 = 0 ∨ j % 4 = 1 ∨ j % 4 = 2 ∨ j % 4 = 3 := by omega
            rcases h with h | h | h | h <;> rw [h] <;> rfl
          refine Jv.r_ixL (Jv.sqL_at upd_same) (atI_nat at4) ?_
          walk_at "r"
          exact ⟨rfl, Jv.same_new hlp⟩
      · rintro σ H15 ⟨rfl, s15⟩
        have nest15 := nest.same s15
        have s1215 := s14.trans s15
        obtain ⟨z, hz⟩ : ∃ z, ns[j]? = some z := ⟨_, List.getElem?_eq_getElem hj⟩
        obtain ⟨c, hc, hs⟩ := sides_snoc (f := f) (pre := ns.take j) (z := z)
        have lp : (ns.take j).length = j := by rw [List.length_take]; omega
        rw [lp] at hc hs
        obtain ⟨a, ha⟩ : ∃ a, [q0, q1, q2][placeI f j]? = some a := ⟨_, List.getElem?_eq_getElem placeI_lt⟩
        have la := nest15.at_ _ a c ha hc
        have lc := sides_len hc
        walk_at "r"
        refine Jv.r_ixL (Jv.sqL_at nest15.hg) (atI_nat (by rw [List.getElem?_map, ha]; rfl)) ?_
        refine ⟨.inl ⟨rfl, _, Jv.sqL_at la⟩, ?_⟩
        walk_at "r"
        refine (skr12.same s1215).ix (v := .int z) (by rw [show (0 : Int) + (j : Int) = (j : Int) by omega]; exact atI_nat (by rw [List.getElem?_map, hz]; rfl)) ?_
        walk_at "r"
        refine Jv.r_app la (by rw [List.length_map]; omega) ?_
        have eu : c.map V.int ++ [V.int z] = (c ++ [z]).map V.int := by rw [List.map_append]; rfl
        rw [eu]
        refine ⟨_, _, rfl, fun b o hb => ?_, ?_⟩
        · rw [upd_ne (ne_of_none hb (free a (List.mem_of_getElem? ha)))]; exact s1215 _ _ hb
        · rw [Jv.take_more hz, hs]
          exact nest15.put ha
    rintro σ H14 ⟨y10, y11, rfl, s14, nest⟩
    rw [Int.toNat_natCast, List.take_length] at nest
    clear nest0 s13 H13
    walk_at "r"
    refine ⟨.ref xa, f, ns, 0, rfl, by decide, sk12.same s14, fun w0 G1 z1 sw0 => ?_⟩
    walk_at "r"
    refine ⟨.ref xa, f, ns, 1, rfl, by decide, (sk12.same s14).same z1, fun w1 G2 z2 sw1 => ?_⟩
    walk_at "r"
    intro pa hpa
    have z3 := Jv.same_new (u := .lst [V.ref w0, V.ref w1]) hpa
    have ep : upd G2 pa (.lst [V.ref w0, V.ref w1]) pa = some (.lst [V.ref w0, V.ref w1]) := upd_same
    generalize upd G2 pa (.lst [V.ref w0, V.ref w1]) = G3 at z3 ep
    have s143 := z1.trans (z2.trans z3)
    have nest2 := nest.same (z1.trans z2)
    have s122 := s14.trans (z1.trans z2)
    have sw0' := Jv.Same.sqT (z2.trans z3) sw0
    have sw1' := Jv.Same.sqT z3 sw1
    have nest3 := nest.same s143
    have s123 := s14.trans s143
    clear sw0 sw1 nest z1 z2
    walk_at "r"
    refine ⟨fun σ G => ∃ ws : List Addr, σ = [some (.ref xa), some (.int L), some (.bl f), some (.bl true), some (.str (Jv.shownW d)), some (.ref rh), some (.ref tt), some (.ref nb), some (oI (sideI f ns)), some (.ref g), y10, y11, some (.ref pa), none] ∧ Same H12 G ∧ Nest G g [q0, q1, q2] (sidesI f ns) ∧ G pa = some (.lst (ws.map V.ref)) ∧ ws.length ≤ 3 ∧ ∀ (k : Nat) a, ws[k]? = some a → ∃ c, (sidesI f ns)[k]? = some c ∧ SqT K G a (c.map V.int), ?_, ?_⟩
    · cases f with
      | false =>
        walk_at "r"
        refine ⟨[w0, w1], rfl, s123, nest3, ep, by simp, fun k a hk => ?_⟩
        match k, hk with
        | 0, hk => cases hk; exact ⟨_, sides_w.1, sw0'⟩
        | 1, hk => cases hk; exact ⟨_, sides_w.2, sw1'⟩
        | n + 2, hk => simp at hk
      | true =>
        walk_at "r"
        refine ⟨.ref xa, ns, rfl, (sk12.same s123), fun w2 G4 z4 sw2 => ?_⟩
        walk_at "r"
        refine Jv.r_app (xs := [V.ref w0, V.ref w1]) (z4 _ _ ep) (by simp) ?_
        have s2 : Same G2 (upd G4 pa (.lst ([V.ref w0, V.ref w1] ++ [V.ref w2]))) := fun b u hb => by rw [upd_ne (ne_of_none hb hpa)]; exact (z3.trans z4) _ _ hb
        refine ⟨[w0, w1, w2], rfl, s122.trans s2, nest2.same s2, upd_same, by simp, fun k a hk => ?_⟩
        have e4 := z4 _ _ ep
        match k, hk with
        | 0, hk => cases hk; exact ⟨_, sides_w.1, Jv.SqT.lstU e4 (Jv.Same.sqT z4 sw0')⟩
        | 1, hk => cases hk; exact ⟨_, sides_w.2, Jv.SqT.lstU e4 (Jv.Same.sqT z4 sw1')⟩
        | 2, hk => cases hk; exact ⟨_, rfl, Jv.SqT.lstU e4 sw2⟩
        | n + 3, hk => simp at hk
    · rintro σ G ⟨ws, rfl, s124, nest4, epw, lw, hw⟩
      walk_at "r"
      rw [List.length_map]
      refine ⟨_, rfl, by omega, by omega, for_range (lo := 0) (n := ((ws.length : Nat) : Int).toNat) (fun j σ G' => ∃ y11, σ = [some (.ref xa), some (.int L), some (.bl f), some (.bl true), some (.str (Jv.shownW d)), some (.ref rh), some (.ref tt), some (.ref nb), some (oI (sideI f ns)), some (.ref g), y10, y11, some (.ref pa), none] ∧ Same G G') ⟨_, rfl, Same.refl _⟩ ?_ ?_⟩
      · rintro j σ G' hj ⟨y11', rfl, sg⟩
        rw [Int.toNat_natCast] at hj
        obtain ⟨wk, hk⟩ : ∃ wk, ws[j]? = some wk := ⟨_, List.getElem?_eq_getElem hj⟩
        obtain ⟨c, hc, sw⟩ := hw j wk hk
        have swk := Jv.Same.sqT sg sw
        have nest5 := nest4.same sg
        have ix : atI (ws.map V.ref) (0 + (j : Int)) = some (.ref wk) := by rw [show (0 : Int) + (j : Int) = (j : Int) by omega]; exact atI_nat (by rw [List.getElem?_map, hk]; rfl)
        obtain ⟨qa, hqa⟩ : ∃ qa, [q0, q1, q2][j]? = some qa := ⟨_, List.getElem?_eq_getElem (show j < 3 by omega)⟩
        walk_at "r"
        refine Jv.r_ixL (Jv.sqL_at (sg _ _ epw)) ix ?_
        walk_at "r"
        refine Jv.d_isT (Jv.tupI swk) ?_
        walk_at "r"
        refine Jv.r_ixL (Jv.sqL_at (sg _ _ epw)) ix ?_
        walk_at "r"
        refine Jv.Sk.list ⟨wk, rfl, .inr swk⟩ fun l H7 hl s7 el => ?_
        walk_at "r"
        refine Jv.r_ixL (Jv.sqL_at (nest5.same s7).hg) (v := .ref qa) (by rw [show (0 : Int) + (j : Int) = (j : Int) by omega]; exact atI_nat (by rw [List.getElem?_map, hqa]; rfl)) ?_
        refine Jv.ne_self (Jv.lstI el) (Jv.lstI ((nest5.same s7).at_ j qa c hqa hc)) (Jv.shapedL _) ?_
        walk_at "r"
        exact ⟨_, rfl, sg.trans s7⟩
      · rintro σ G' ⟨y11', rfl, sg⟩
        have t15 := t12.same (s124.trans sg)
        walk_at "r"
        refine ⟨_, d, rfl, t15.dw, t15.can, t15.ok, ?_⟩
        walk_at "r"
        rw [decide_eq_true rfl]
        exact q _ (s12.trans (s212.trans (s124.trans sg)))
end
end K09

namespace Jv
open PySem PySem.Spec PyProof.Rows L2
theorem DvAll.app {K : PySem.W.Frag} {H : Hp} : ∀ {vs ws : List V} {ds es : List PyData}, DvAll K H vs ds → DvAll K H ws es → DvAll K H (vs ++ ws) (ds ++ es)
  | _, _, _, _, .nil, q => q
  | _, _, _, _, .cons a b, q => .cons a (DvAll.app b q)
end Jv
namespace Jv
open PySem PySem.Spec PyProof.Rows L2
/-! ### the hand beside data -/
section
variable {K : PySem.W.Frag} {H H' H1 : Hp} {p l b : Addr} {o : HO}
theorem Hand.ne2 (h : Hand H p l) (n : H b = none) : b ≠ p ∧ b ≠ l := by
  obtain ⟨ns, k, c, t, hA⟩ := h
  exact ⟨fun e => (by rw [e, hA.hp] at n; cases n), fun e => (by rw [e, hA.hl] at n; cases n)⟩
theorem Hand.upd (h : Hand H p l) (n1 : b ≠ p) (n2 : b ≠ l) : Hand (L2.upd H b o) p l := by
  obtain ⟨ns, k, c, t, hA⟩ := h
  exact ⟨ns, k, c, t, by rw [upd_ne n1.symm]; exact hA.hp, by rw [upd_ne n2.symm]; exact hA.hl, hA.nn, hA.few, hA.bd⟩
theorem Kp.free (k : Kp p H H') (h : Hand H' p l) (n : H' b = none) : H b = none := by
  cases e : H b with
  | none => rfl
  | some o =>
    obtain ⟨u, hu⟩ := h.at
    by_cases nb : b = p
    · rw [nb, hu] at n; cases n
    · rw [k b o nb e] at n; cases n
theorem Kp.hide (k : Kp p H H') : Same (Jv.hide [p] H) (Jv.hide [p] H') := fun b o e => by
  obtain ⟨n, e2⟩ := hide_some e
  exact hide_at n (k b o (fun h => n (by rw [h]; exact List.mem_singleton.mpr rfl)) e2)
theorem hide_one {p b : Addr} {o : HO} (n : b ≠ p) (h : H b = some o) : Jv.hide [p] H b = some o := hide_at (fun m => n (List.mem_singleton.mp m)) h
theorem Kp.hideM {N : List Addr} (k : Kp p H H') (m : p ∈ N) : Same (Jv.hide N H) (Jv.hide N H') := fun b o e => by
  obtain ⟨n, e2⟩ := hide_some e
  exact hide_at n (k b o (fun h => n (by rw [h]; exact m)) e2)
theorem Hand.lst (h : Hand H p l) : ∀ b ∈ [p], ∃ ys, H b = some (.lst ys) := fun b m => by
  rw [List.mem_singleton.mp m]
  obtain ⟨_, _, _, _, hA⟩ := h
  exact ⟨_, hA.hp⟩
theorem Hand.neTup {xs : List V} (h : Hand H p l) (e : H b = some (.tup xs)) : b ≠ p := fun z => by
  obtain ⟨_, _, _, _, hA⟩ := h
  rw [z, hA.hp] at e; cases e
/-- one of a list's elements -/
theorem pickH {H2 : Hp} {Q : VK} {t : Addr} {xs : List V} {ds : List PyData} {z : Int} (e : H t = some (.lst xs)) (al : Jv.DvAll K H2 xs ds) (z0 : 0 ≤ z) (z1 : z < xs.length) (k : ∀ v d, d ∈ ds → Jv.Dv K H2 v d → Q v H) : rIxL K (.ref t) (.int z) H Q := by
  have hz : z.toNat < xs.length := by omega
  obtain ⟨d, hd, dv⟩ := al.at (List.getElem?_eq_getElem hz)
  exact Jv.r_ixL (Jv.sqL_at e) (Jv.at_i z0 (List.getElem?_eq_getElem hz)) (k _ d (List.mem_of_getElem? hd) dv)
theorem SqT.kp {a : Addr} {xs : List V} (h : SqT K H a xs) (hh : Hand H p l) (k : Kp p H H') : SqT K H' a xs := Jv.Same.sqT hide_le (Jv.Same.sqT (Kp.hide k) (Jv.sqT_hide hh.lst h))
theorem FzT.kp {a : Addr} (h : FzT H a) (hh : Hand H p l) (k : Kp p H H') : FzT H' a := by
  obtain ⟨o, u, e, c⟩ := h
  obtain ⟨_, _, _, _, hA⟩ := hh
  exact ⟨o, u, k a _ (fun z => by rw [z, hA.hp] at e; cases e) e, c⟩
theorem FzT.hide {a : Addr} (h : FzT H a) (hh : Hand H p l) : FzT (Jv.hide [p] H) a := by
  obtain ⟨o, u, e, c⟩ := h
  obtain ⟨_, _, _, _, hA⟩ := hh
  exact ⟨o, u, hide_one (fun z => by rw [z, hA.hp] at e; cases e) e, c⟩
/-- t + u, one of them known and not empty -/
theorem r_catFr {Q : VK} {a b : Addr} {xs ys : List V} (ha : SqT K H a xs) (hb : SqT K H b ys) (n : ys ≠ []) (f : FzT H b) (hz : xs.length + ys.length ≤ sizeLine) (q : ∀ t H', Same H H' → SqT K H' t (xs ++ ys) → FzT H' t → Q (.ref t) H') : rCatF K (.ref a) (.ref b) H Q := by
  refine ⟨a, b, xs, ys, rfl, rfl, ha, hb, hz, fun e => ?_, fun _ e => absurd e n, fun _ _ t o ht hc hd => ?_⟩
  · subst e; exact q b H (Same.refl _) hb f
  · exact q t _ (same_new ht) (.inl (.inr ⟨o, upd_same⟩)) ⟨o, _, upd_same, hc, hd⟩
theorem r_catFl {Q : VK} {a b : Addr} {xs ys : List V} (ha : SqT K H a xs) (hb : SqT K H b ys) (n : xs ≠ []) (f : FzT H a) (hz : xs.length + ys.length ≤ sizeLine) (q : ∀ t H', Same H H' → SqT K H' t (xs ++ ys) → FzT H' t → Q (.ref t) H') : rCatF K (.ref a) (.ref b) H Q := by
  refine ⟨a, b, xs, ys, rfl, rfl, ha, hb, hz, fun e => absurd e n, fun _ _ => q a H (Same.refl _) (by rename_i e; subst e; rw [List.append_nil]; exact ha) f, fun _ _ t o ht hc hd => ?_⟩
  exact q t _ (same_new ht) (.inl (.inr ⟨o, upd_same⟩)) ⟨o, _, upd_same, hc, hd⟩
/-- (x, ..) -/
theorem tupNew {t : Addr} {o : Obj} {xs : List V} (ht : H t = none) (hc : o.cls = .type "tuple") (hd : o.dict = none) : Same H (L2.upd H t (.frz o (.tup xs))) ∧ SqT K (L2.upd H t (.frz o (.tup xs))) t xs ∧ FzT (L2.upd H t (.frz o (.tup xs))) t :=
  ⟨same_new ht, .inl (.inr ⟨o, upd_same⟩), o, _, upd_same, hc, hd⟩
theorem r_tupF {t : TA} {σ : L2.St} {Q : VK} (h : t σ H fun xs H1 => xs.length ≤ sizeLine ∧ ∀ q o, H1 q = none → o.cls = .type "tuple" → o.dict = none → Q (.ref q) (L2.upd H1 q (.frz o (.tup xs)))) : tTupF t σ H Q := h
/-- a slice of a tuple -/
theorem r_slA {Q : VK} {a : Addr} {xs ys : List V} {lo hi : Option Int} (h : SqT K H a xs) (e : cutV xs lo hi = ys) (q : ∀ t H', Same H H' → SqT K H' t ys → Q (.ref t) H') : rSlA K (.ref a) lo hi H Q := by
  refine ⟨a, xs, rfl, h, fun hw => q a H (Same.refl _) ?_, fun _ t ht => q t _ (same_new ht) (Jv.sqT_at (by rw [upd_same, e]))⟩
  rw [← e]
  unfold cutV
  rw [hw.1, hw.2]
  simpa using h
end
end Jv
namespace K09
open PySem PySem.Spec PyProof.Rows L2
/-! ### one of a list; what stands of a sequence -/
def sp_Lpick : Sp := fun vs H Q _ => ∃ p l t xs, vs = [.ref p, .ref t] ∧ Jv.Hand H p l ∧ H t = some (.lst xs) ∧ t ≠ p ∧ (0 < xs.length ∧ xs.length ≤ 1000) ∧ ∀ (i : Nat) v H', xs[i]? = some v → Jv.Kp p H H' → Jv.Hand H' p l → Q v H'
/-- an item of a sequence -/
structure Piece (d : PyData) : Prop where
  can : d.canLay0 = true
  show_ : d.showable = true
  short : d.intsShort 24 = true
  dep : d.depth ≤ 2
  wt : d.weight ≤ 100
theorem piece_int {i : Int} (h : 0 ≤ i ∧ i ≤ 100) : Piece (.int i) := by
  have hs : i.natAbs < 128 := by omega
  have h2 : i.natAbs.log2 ≤ 7 := by
    rcases Nat.eq_zero_or_pos i.natAbs with z | z
    · rw [z]; decide
    · have := (Nat.log2_lt (by omega)).mpr (show i.natAbs < 2 ^ 7 from hs)
      omega
  refine ⟨by simp [PyData.canLay0], by simp only [PyData.showable]; exact decide_eq_true (by omega), ?_, by simp [PyData.depth], ?_⟩
  · have := PyData.intsShortAll_ints [i] (fun n m => by rw [List.mem_singleton.mp m]; omega)
    have h3 : (PyData.int i).intsShort 13 = true := by simpa [PyData.intsShortAll] using this
    simp only [PyData.intsShort, decide_eq_true_eq] at h3 ⊢
    exact Nat.le_trans h3 (by decide)
  · simp only [PyData.weight]
    split <;> omega
theorem canAll_of : ∀ {ds : List PyData}, (∀ d ∈ ds, d.canLay0 = true) → PyData.canLayAll0 ds = true
  | [], _ => by simp [PyData.canLayAll0]
  | a :: r, h => by simp [PyData.canLayAll0, h a List.mem_cons_self, canAll_of fun d m => h d (List.mem_cons_of_mem _ m)]
theorem showAll_of : ∀ {ds : List PyData}, (∀ d ∈ ds, d.showable = true) → PyData.showableAll ds = true
  | [], _ => by simp [PyData.showableAll]
  | a :: r, h => by simp [PyData.showableAll, h a List.mem_cons_self, showAll_of fun d m => h d (List.mem_cons_of_mem _ m)]
theorem shortAll_of {B : Nat} : ∀ {ds : List PyData}, (∀ d ∈ ds, d.intsShort B = true) → PyData.intsShortAll B ds = true
  | [], _ => by simp [PyData.intsShortAll]
  | a :: r, h => by simp [PyData.intsShortAll, h a List.mem_cons_self, shortAll_of fun d m => h d (List.mem_cons_of_mem _ m)]
theorem depAll_of {n : Nat} : ∀ {ds : List PyData}, (∀ d ∈ ds, d.depth ≤ n) → PyData.depthAll ds ≤ n
  | [], _ => by simp [PyData.depthAll]
  | a :: r, h => by
    have h1 := h a List.mem_cons_self
    have h2 := depAll_of fun d m => h d (List.mem_cons_of_mem _ m)
    simp [PyData.depthAll]; omega
theorem weightAll_of {n : Nat} : ∀ {ds : List PyData}, (∀ d ∈ ds, d.weight ≤ n) → PyData.weightAll ds ≤ (n + 1) * ds.length
  | [], _ => by simp [PyData.weightAll]
  | a :: r, h => by
    have h1 := h a List.mem_cons_self
    have h2 := weightAll_of fun d m => h d (List.mem_cons_of_mem _ m)
    simp only [PyData.weightAll, List.length_cons, Nat.mul_add]
    omega
theorem seq_two {d : PyData} {ds : List PyData} (h : Jv.seqD d = some ds) : d = .list ds ∨ d = .tuple ds := by
  cases d with
  | list xs => cases h; exact .inl rfl
  | tuple xs => cases h; exact .inr rfl
  | _ => cases h
theorem thing_seq {K : PySem.W.Frag} {H : Hp} {x : V} {d : PyData} {ds : List PyData} (hd : Jv.Dv K H x d) (e : Jv.seqD d = some ds) (hl : ds.length ≤ 60) (fz : FzD H x d) (h : ∀ a ∈ ds, Piece a) : Thing K H x d := by
  have c1 := canAll_of fun e he => (h e he).can
  have c2 := showAll_of fun e he => (h e he).show_
  have c3 := shortAll_of fun e he => (h e he).short
  have c4 := depAll_of fun e he => (h e he).dep
  have c5 := weightAll_of fun e he => (h e he).wt
  have can : d.canLay0 = true := by rcases seq_two e with rfl | rfl <;> (simp only [PyData.canLay0]; exact c1)
  have sh : d.intsShort 24 = true := by rcases seq_two e with rfl | rfl <;> (simp only [PyData.intsShort]; exact c3)
  have so : d.showable = true := by rcases seq_two e with rfl | rfl <;> (simp only [PyData.showable]; exact c2)
  have dp : d.depth ≤ 60 := by rcases seq_two e with rfl | rfl <;> (simp only [PyData.depth]; omega)
  have wt : d.weight ≤ 6200 := by rcases seq_two e with rfl | rfl <;> (simp only [PyData.weight]; omega)
  have ln := PyData.shown_le 24 (by decide) d (PyData.leavesShort_of_canLay0 24 d can sh)
  have sz : d.shown.length ≤ sizeLine := by
    have : (200000 : Nat) ≤ sizeLine := by decide
    omega
  refine ⟨.dv hd, fun ds' e' => ?_, fz, fun _ _ => can, ?_⟩
  · rw [e] at e'; cases e'; exact hl
  · rcases seq_two e with rfl | rfl <;> exact ⟨so, dp, sz⟩
theorem thing_tup {K : PySem.W.Frag} {H : Hp} {a : Addr} {ns : List Int} (h : SqT K H a (ns.map V.int)) (f : ns ≠ [] → Jv.FzT H a) (hl : ns.length ≤ 60) (hn : ∀ n ∈ ns, 0 ≤ n ∧ n ≤ 100) : Thing K H (.ref a) (.tuple (ns.map .int)) := by
  refine thing_seq (Jv.tupI h) rfl (by rw [List.length_map]; exact hl) (fun e r z => ⟨a, rfl, f fun c => ?_⟩) fun x m => ?_
  · subst c; cases z
  · obtain ⟨n, hm, rfl⟩ := List.mem_map.mp m
    exact piece_int (hn n hm)
theorem thing_lst {K : PySem.W.Frag} {H : Hp} {a : Addr} {ns : List Int} (h : H a = some (.lst (ns.map V.int))) (hl : ns.length ≤ 60) (hn : ∀ n ∈ ns, 0 ≤ n ∧ n ≤ 100) : Thing K H (.ref a) (.list (ns.map .int)) := by
  refine thing_seq (Jv.lstI h) rfl (by rw [List.length_map]; exact hl) (fun e r z => by cases z) fun x m => ?_
  obtain ⟨n, hm, rfl⟩ := List.mem_map.mp m
  exact piece_int (hn n hm)
section
variable {P : Program} {w : World} {K : PySem.W.Frag} {mg : Str → Option Value} {base : Heap}
theorem ok_Lpick (T : Tx) (O : Ok K mg T) : FnOk P w K mg base CX0 3 T.f_Lpick T.d_Lpick ["_law_hand_here", "_law_things"] sp_Lpick := by
  refine O.F_Lpick.ok sc_Lpick (fun vs H Q E h => by obtain ⟨_, _, _, _, rfl, _⟩ := h; rfl) (fun cdv A outer s H vs Q E hr h => ?_)
  obtain ⟨p, l, t, xs, rfl, hh, ht, hne, ⟨h0, h1⟩, q⟩ := h
  refine ⟨_, (pss_one (ps_ret (pe_ix (r := rIxL K) ix_list (pv 1) (pe_call (ok_Ldraw T O) (hr.mono (by decide)) (by rfl) O.m_Ldraw O.F_Ldraw.kp O.b_Ldraw .nil pass0 (pa_cons (pv 0) (pa_cons (pe_callB (r := Jv.rLenK K) Jv.cr_len (by rfl) O.z_len (by decide +kernel) (pa_cons (pv 1) pa_nil)) pa_nil))) (fun _ _ => rfl)))), ?_⟩
  walk_at "r"
  refine ⟨p, l, _, rfl, hh, ⟨by omega, Jv.log_small (by omega) (by omega)⟩, fun r H' r0 r1 kp hh' => ?_⟩
  have hr : r.toNat < xs.length := by omega
  have e := List.getElem?_eq_getElem hr
  exact Jv.r_ixL (Jv.sqL_at (kp t _ hne ht)) (Jv.at_i r0 e) (q _ _ _ e kp hh')
end
end K09

namespace Jv
open PySem PySem.Spec PyProof.Rows L2
theorem r_slFromP {r : V → Option Int → Option Int → Hp → VK → Prop} {σ : L2.St} {H : Hp} {Q : VK} {i j : Nat} {x : V} {k m : Int} (hx : σ[j]? = some (some x)) (hv : σ[i]? = some (some (.int k))) (h : r x (some (k + m)) none H Q) : tSl r (tVar j) (tPart (tOp (rI0 fun a b => V.int (a + b)) (tVar i) (tC (V.int m)))) tNoPart σ H Q :=
  ⟨x, hx, _, hv, _, _, rfl, rfl, k + m, rfl, h⟩
end Jv
namespace K09
open PySem PySem.Spec PyProof.Rows L2
/-! ### a row, drawn -/
structure RowAt (K : PySem.W.Frag) (H : Hp) (a : Addr) (L : Int) (ns : List Int) : Prop where
  sq : SqT K H a (ns.map V.int)
  fz : ns ≠ [] → Jv.FzT H a
  ln : ns.length ≤ 20
  bd : ∀ n ∈ ns, 0 ≤ n ∧ n ≤ L
theorem RowAt.same {K : PySem.W.Frag} {H H' : Hp} {a : Addr} {L : Int} {ns : List Int} (h : RowAt K H a L ns) (s : Same H H') : RowAt K H' a L ns := ⟨Jv.Same.sqT s h.sq, fun n => (h.fz n).same s, h.ln, h.bd⟩
theorem RowAt.kp {K : PySem.W.Frag} {H H' : Hp} {a p l : Addr} {L : Int} {ns : List Int} (h : RowAt K H a L ns) (hh : Jv.Hand H p l) (k : Jv.Kp p H H') : RowAt K H' a L ns := ⟨Jv.SqT.kp h.sq hh k, fun n => (h.fz n).kp hh k, h.ln, h.bd⟩
/-- what a row is spoilt with -/
def oddL (L : Int) : List PyData := [.bool true, .bool false, .none, .str "1", .int (-1), .int (L + 1), .tuple [.int 1], .list [], .str "", .int (10 ^ Int.toNat 20)]
theorem thing_flat {K : PySem.W.Frag} {H : Hp} {x : V} {d : PyData} (h : Jv.Dw K H x d) (e : Jv.seqD d = none) (ok : Jv.ShowOk d) : Thing K H x d :=
  ⟨h, fun _ z => (by rw [e] at z; cases z), fun _ _ z => (by subst z; cases e), fun _ z => (by rw [e] at z; cases z), ok⟩
theorem odd_piece {L : Int} (h : 0 ≤ L ∧ L ≤ 6) {d : PyData} (m : d ∈ oddL L) : Piece d := by
  simp only [oddL, List.mem_cons, List.not_mem_nil, or_false] at m
  rcases m with rfl | rfl | rfl | rfl | rfl | rfl | rfl | rfl | rfl | rfl
  all_goals first
    | exact piece_int (by omega)
    | exact ⟨by decide +kernel, by decide +kernel, by decide +kernel, by decide +kernel, by decide +kernel⟩
def sp_Lrow (K : PySem.W.Frag) : Sp := fun vs H Q _ => ∃ p l L f, vs = [.ref p, .int L, .bl f] ∧ Jv.Hand H p l ∧ (0 ≤ L ∧ L ≤ 6) ∧ ∀ a ns H', Jv.Kp p H H' → Jv.Hand H' p l → RowAt K H' a L ns → Q (.ref a) H'
def sp_Lspoilt (K : PySem.W.Frag) : Sp := fun vs H Q _ => ∃ p l a L ns, vs = [.ref p, .ref a, .int L] ∧ Jv.Hand H p l ∧ (0 ≤ L ∧ L ≤ 6) ∧ RowAt K H a L ns ∧ ∀ v d H', Jv.Kp p H H' → Jv.Hand H' p l → Thing K H' v d → Q v H'
section
variable {P : Program} {w : World} {K : PySem.W.Frag} {mg : Str → Option Value} {base : Heap}
theorem ok_Lrow (T : Tx) (O : Ok K mg T) : FnOk P w K mg base CX0 4 T.f_Lrow T.d_Lrow ["_law_hand_here", "_law_ladder", "_law_foes"] (sp_Lrow K) := by
  refine O.F_Lrow.ok sc_Lrow (fun vs H Q E h => by obtain ⟨_, _, _, _, rfl, _⟩ := h; rfl) (fun cdv A outer s H vs Q E hr h => ?_)
  obtain ⟨p, l, L, f, rfl, hh, hL, q⟩ := h
  refine ⟨_, (pss_cons (ps_set (i := 3) sc_Lrow.nd rfl (Or.inl rfl) (show PE _ _ (Jv.tTupF _) from Jv.pe_tupF pa_nil))
  (pss_cons (ps_set (i := 4) sc_Lrow.nd rfl (Or.inl rfl) (pe_call (ok_Ldraw T O) (hr.mono (by decide)) (by rfl) O.m_Ldraw O.F_Ldraw.kp O.b_Ldraw .nil pass0 (pa_cons (pv 0) (pa_cons (pe_op op_add (pe_op op_mul pe_int (pv 1)) pe_int) pa_nil))))
  (pss_cons (ps_set (i := 5) sc_Lrow.nd rfl (Or.inl rfl) (pe_call (ok_Ldraw T O) (hr.mono (by decide)) (by rfl) O.m_Ldraw O.F_Ldraw.kp O.b_Ldraw .nil pass0 (pa_cons (pv 0) (pa_cons pe_int pa_nil))))
  (pss_cons (ps_for PassesOwn.never rfl (pi_range1 (by rfl) O.z_range (pa_cons (pv 4) pa_nil)) (pg_name (i := 6) sc_Lrow.nd rfl (Or.inl rfl)) (pss_one (ps_if (pt_not (pt_val (pe_call (ok_Lover T O) (hr.mono (by decide)) (by rfl) O.m_Lover O.F_Lover.kp O.b_Lover .nil pass0 (pa_cons (pv 3) (pa_cons (pv 2) pa_nil))))) (pss_cons (ps_set (i := 7) sc_Lrow.nd rfl (Or.inl rfl) (pe_call (ok_Lnexts T O) (hr.mono (by decide)) (by rfl) O.m_Lnexts O.F_Lnexts.kp O.b_Lnexts .nil pass0 (pa_cons (pv 1) (pa_cons (pv 3) pa_nil))))
  (pss_one (ps_set (i := 3) sc_Lrow.nd rfl (Or.inl rfl) (pe_op (r := Jv.rCatF K) Jv.op_catF (pv 3) (show PE _ _ (Jv.tTupF _) from Jv.pe_tupF (pa_cons (pe_call (ok_Lpick T O) (hr.mono (by decide)) (by rfl) O.m_Lpick O.F_Lpick.kp O.b_Lpick .nil pass0 (pa_cons (pv 0) (pa_cons (pe_ifExp (pt_cmpR op_eq (pv 5) pe_int (nomark _)) (pe_slice (r := rSlL K) sl_list (pv 7) po_none (po_some pe_int)) (pv 7)) pa_nil))) pa_nil)))))) pss_nil)))
  (pss_one (ps_ret (pv 3))))))), ?_⟩
  walk_at "r"
  refine ⟨by simp, fun t0 o0 ht0 hc0 hd0 => ?_⟩
  obtain ⟨s0, sq0, fz0⟩ := Jv.tupNew (K := K) (xs := []) ht0 hc0 hd0
  generalize L2.upd H t0 (.frz o0 (.tup [])) = H0 at s0 sq0 fz0
  have hh0 := hh.same s0
  have row0 : RowAt K H0 t0 L [] := ⟨sq0, fun n => absurd rfl n, by simp, by simp⟩
  walk_at "r"
  refine ⟨p, l, _, rfl, hh0, ⟨by omega, Jv.log_small (by omega) (by omega)⟩, fun far H1 f0 f1 kp1 hh1 => ?_⟩
  walk_at "r"
  refine ⟨p, l, _, rfl, hh1, ⟨by omega, Jv.log_small (by omega) (by omega)⟩, fun sm H2 m0 m1 kp2 hh2 => ?_⟩
  have row2 := (row0.kp hh0 kp1).kp hh1 kp2
  have kp02 : Jv.Kp p H H2 := (Jv.Kp.same s0).trans (kp1.trans kp2)
  walk_at "r"
  refine ⟨_, rfl, by omega, by omega, for_range (lo := 0) (n := far.toNat) (fun j σ H' => ∃ a ns y6 y7, σ = [some (.ref p), some (.int L), some (.bl f), some (.ref a), some (.int far), some (.int sm), y6, y7] ∧ Jv.Kp p H H' ∧ Jv.Hand H' p l ∧ RowAt K H' a L ns ∧ ns.length ≤ j) ⟨t0, [], _, _, rfl, kp02, hh2, row2, by simp⟩ ?_ ?_⟩
  · rintro j σ H3 hj ⟨a, ns, y6, y7, rfl, kp3, hh3, row3, hln⟩
    walk_at "r"
    refine ⟨_, f, ns, rfl, ⟨a, rfl, .inr row3.sq⟩, ?_⟩
    cases ov : overI f ns with
    | true =>
      walk_at "r"
      exact ⟨a, ns, _, _, rfl, kp3, hh3, row3, by omega⟩
    | false =>
      walk_at "r"
      refine ⟨L, .ref a, ns, rfl, by omega, ⟨a, rfl, .inr row3.sq⟩, Nat.le_trans row3.ln (by decide), Int.le_trans (Jv.topI_le hL.1 fun n m => (row3.bd n m).2) (by omega), fun r H4 s4 hr4 e4 => ?_⟩
      have hh4 := hh3.same s4
      have row4 := row3.same s4
      have nr := Jv.Hand.ne2 hh3 hr4
      have mem : ∀ (i : Nat) v, ((nextsI L (Jv.topI ns)).map V.int)[i]? = some v → ∃ z, v = .int z ∧ 0 ≤ z ∧ z ≤ L := fun i v e => by
        obtain ⟨z, hz, rfl⟩ := Jv.map_at e
        exact ⟨z, rfl, ((nexts_mem hL.1 Jv.topI_0).mp (List.mem_of_getElem? hz)).1⟩
      have len1 : 0 < (nextsI L (Jv.topI ns)).length := by simp [nextsI]
      have len2 : (nextsI L (Jv.topI ns)).length ≤ 7 := by
        have := @Jv.topI_0 ns
        simp only [nextsI, List.length_cons, List.length_map, List.length_range]; omega
      have fin : ∀ (z : Int) (H6 : Hp), 0 ≤ z → z ≤ L → Jv.Kp p H3 H6 → Jv.Hand H6 p l → RowAt K H6 a L ns → ∀ R : VK, (∀ t H7, Jv.Kp p H H7 → Jv.Hand H7 p l → RowAt K H7 t L (ns ++ [z]) → R (.ref t) H7) →
          ∀ (q : Addr) (o : Obj), H6 q = none → o.cls = .type "tuple" → o.dict = none → Jv.rCatF K (.ref a) (.ref q) (L2.upd H6 q (.frz o (.tup [V.int z]))) R := fun z H6 z0 z1 k6 h6 r6 R hR q o hq hc hd => by
        obtain ⟨s7, sq7, fz7⟩ := Jv.tupNew (K := K) (xs := [V.int z]) hq hc hd
        have ln := r6.ln
        refine Jv.r_catFr (Jv.Same.sqT s7 r6.sq) sq7 (by simp) fz7 (Jv.small_of (by simp; omega)) fun t H8 s8 sq8 fz8 => ?_
        have s68 := s7.trans s8
        refine hR t H8 (kp3.trans (k6.trans (Jv.Kp.same s68))) (h6.same s68) ⟨by rw [List.map_append]; exact sq8, fun _ => fz8, by simp; omega, fun n m => ?_⟩
        rcases List.mem_append.mp m with m | m
        · exact row3.bd n m
        · rw [List.mem_singleton.mp m]; exact ⟨z0, z1⟩
      walk_at "r"
      refine Jv.r_tupF ?_
      walk_at "r"
      refine Jv.r_decI (fun hs => ?_) (fun hs => ?_)
      · walk_at "r"
        refine ⟨_, rfl, 2, rfl, r, _, rfl, Jv.sqL_at e4, fun c hc => ?_⟩
        walk_at "r"
        refine ⟨p, l, c, _, rfl, hh4.same (Jv.same_new hc), upd_same, (Jv.Hand.ne2 hh4 hc).1, ?_, fun i v H5 hv kp5 hh5 => ?_⟩
        · have e : cutV ((nextsI L (Jv.topI ns)).map V.int) none (some 2) = ((nextsI L (Jv.topI ns)).map V.int).take 2 := by
            unfold cutV
            rw [HT.sIx_none, show (2 : Int) = ((2 : Nat) : Int) from rfl, HT.sIx_nat, List.drop_zero, Nat.sub_zero, ← List.take_take, List.take_length]
          rw [e, List.length_take, List.length_map]
          omega
        · have e : cutV ((nextsI L (Jv.topI ns)).map V.int) none (some 2) = ((nextsI L (Jv.topI ns)).map V.int).take 2 := by
            unfold cutV
            rw [HT.sIx_none, show (2 : Int) = ((2 : Nat) : Int) from rfl, HT.sIx_nat, List.drop_zero, Nat.sub_zero, ← List.take_take, List.take_length]
          rw [e] at hv
          obtain ⟨z, rfl, z0, z1⟩ := mem i v (by
            rw [List.getElem?_take] at hv
            split at hv
            · exact hv
            · cases hv)
          walk_at "r"
          refine fin z H5 z0 z1 ((Jv.Kp.same (s4.trans (Jv.same_new hc))).trans kp5) hh5 ((row4.same (Jv.same_new hc)).kp (hh4.same (Jv.same_new hc)) kp5) _ fun t H7 kp7 hh7 row7 => ?_
          exact ⟨t, _, _, _, rfl, kp7, hh7, row7, by simp; omega⟩
      · walk_at "r"
        refine ⟨p, l, r, _, rfl, hh4, e4, nr.1, by rw [List.length_map]; omega, fun i v H5 hv kp5 hh5 => ?_⟩
        obtain ⟨z, rfl, z0, z1⟩ := mem i v hv
        walk_at "r"
        refine fin z H5 z0 z1 ((Jv.Kp.same s4).trans kp5) hh5 (row4.kp hh4 kp5) _ fun t H7 kp7 hh7 row7 => ?_
        exact ⟨t, _, _, _, rfl, kp7, hh7, row7, by simp; omega⟩
  · rintro σ H3 ⟨a, ns, y6, y7, rfl, kp3, hh3, row3, hln⟩
    walk_at "r"
    exact q a ns _ kp3 hh3 row3
theorem ok_Lspoilt (T : Tx) (O : Ok K mg T) : FnOk P w K mg base CX0 4 T.f_Lspoilt T.d_Lspoilt ["_law_hand_here", "_law_row_here", "_law_ladder"] (sp_Lspoilt K) := by
  refine O.F_Lspoilt.ok sc_Lspoilt (fun vs H Q E h => by obtain ⟨_, _, _, _, _, rfl, _⟩ := h; rfl) (fun cdv A outer s H vs Q E hr h => ?_)
  obtain ⟨p, l, a, L, ns, rfl, hh, hL, row, q⟩ := h
  refine ⟨_, (pss_cons (ps_set (i := 3) sc_Lspoilt.nd rfl (Or.inl rfl) (pe_call (ok_Lpick T O) (hr.mono (by decide)) (by rfl) O.m_Lpick O.F_Lpick.kp O.b_Lpick .nil pass0 (pa_cons (pv 0) (pa_cons (pe_lst (pa_cons pe_bl (pa_cons pe_bl (pa_cons pe_non (pa_cons pe_str (pa_cons (pe_un un_neg pe_int) (pa_cons (pe_op op_add (pv 2) pe_int) (pa_cons (pe_tup (pa_cons pe_int pa_nil)) (pa_cons (pe_lst pa_nil) (pa_cons pe_str (pa_cons (pe_op op_pow pe_int pe_int) pa_nil))))))))))) pa_nil))))
  (pss_cons (ps_set (i := 4) sc_Lspoilt.nd rfl (Or.inl rfl) (pe_call (ok_Ldraw T O) (hr.mono (by decide)) (by rfl) O.m_Ldraw O.F_Ldraw.kp O.b_Ldraw .nil pass0 (pa_cons (pv 0) (pa_cons pe_int pa_nil))))
  (pss_cons (ps_if (pt_cmpR op_eq (pv 4) pe_int (nomark _)) (pss_one (ps_ret (pe_call (ok_Lpick T O) (hr.mono (by decide)) (by rfl) O.m_Lpick O.F_Lpick.kp O.b_Lpick .nil pass0 (pa_cons (pv 0) (pa_cons (pe_lst (pa_cons pe_non (pa_cons pe_str (pa_cons pe_int (pa_cons pe_bl (pa_cons pe_dnewK (pa_cons (pe_disp (pps_cons pe_int pe_int pps_nil) (by rfl) (by rfl) (fun z => by cases z) (by decide)) (pa_cons pe_str (pa_cons pe_int pa_nil))))))))) pa_nil))))) pss_nil)
  (pss_cons (ps_set (i := 5) sc_Lspoilt.nd rfl (Or.inl rfl) (pe_call (ok_Ldraw T O) (hr.mono (by decide)) (by rfl) O.m_Ldraw O.F_Ldraw.kp O.b_Ldraw .nil pass0 (pa_cons (pv 0) (pa_cons (pe_op op_add (pe_callB (r := Jv.rLenK K) Jv.cr_len (by rfl) O.z_len (by decide +kernel) (pa_cons (pv 1) pa_nil)) pe_int) pa_nil))))
  (pss_cons (ps_if (pt_cmpR op_lt (pv 4) pe_int (nomark _)) (pss_one (ps_ret (pe_op (r := Jv.rCatF K) Jv.op_catF (pe_op (r := Jv.rCatF K) Jv.op_catF (pe_slice (r := rSlA K) sl_tupA (pv 1) po_none (po_some (pv 5))) (show PE _ _ (Jv.tTupF _) from Jv.pe_tupF (pa_cons (pv 3) pa_nil))) (pe_slice (r := rSlA K) sl_tupA (pv 1) (po_some (pv 5)) po_none)))) pss_nil)
  (pss_cons (ps_if (PW.pt (pw_or (pt_cmpR op_lt (pv 4) pe_int (nomark _)) (pw_or1 (pt_cmpR (r := rEqD K) (op_eqD hr.units) (pv 1) (pe_tup pa_nil) (nomark _))))) (pss_one (ps_ret (pe_op (r := Jv.rCatF K) Jv.op_catF (pv 1) (show PE _ _ (Jv.tTupF _) from Jv.pe_tupF (pa_cons (pe_call (ok_Ldraw T O) (hr.mono (by decide)) (by rfl) O.m_Ldraw O.F_Ldraw.kp O.b_Ldraw .nil pass0 (pa_cons (pv 0) (pa_cons (pe_op op_add (pv 2) pe_int) pa_nil))) pa_nil))))) pss_nil)
  (pss_cons (ps_set (i := 5) sc_Lspoilt.nd rfl (Or.inl rfl) (pe_call (ok_Ldraw T O) (hr.mono (by decide)) (by rfl) O.m_Ldraw O.F_Ldraw.kp O.b_Ldraw .nil pass0 (pa_cons (pv 0) (pa_cons (pe_callB (r := Jv.rLenK K) Jv.cr_len (by rfl) O.z_len (by decide +kernel) (pa_cons (pv 1) pa_nil)) pa_nil))))
  (pss_one (ps_ret (pe_op (r := Jv.rCatF K) Jv.op_catF (pe_op (r := Jv.rCatF K) Jv.op_catF (pe_slice (r := rSlA K) sl_tupA (pv 1) po_none (po_some (pv 5))) (show PE _ _ (Jv.tTupF _) from Jv.pe_tupF (pa_cons (pe_call (ok_Lpick T O) (hr.mono (by decide)) (by rfl) O.m_Lpick O.F_Lpick.kp O.b_Lpick .nil pass0 (pa_cons (pv 0) (pa_cons (pe_lst (pa_cons (pv 3) (pa_cons (pe_call (ok_Ldraw T O) (hr.mono (by decide)) (by rfl) O.m_Ldraw O.F_Ldraw.kp O.b_Ldraw .nil pass0 (pa_cons (pv 0) (pa_cons (pe_op op_add (pv 2) pe_int) pa_nil))) pa_nil))) pa_nil))) pa_nil))) (pe_slice (r := rSlA K) sl_tupA (pv 1) (po_some (pe_op op_add (pv 5) pe_int)) po_none))))))))))), ?_⟩
  walk_at "r"
  intro t ht
  walk_at "r"
  intro e he
  walk_at "r"
  intro g hg
  have ne1 := Jv.Hand.ne2 hh ht
  have hh1 := hh.same (Jv.same_new (u := .tup [V.int 1]) ht)
  have ne2 := Jv.Hand.ne2 hh1 he
  have hh2 := hh1.same (Jv.same_new (u := .lst []) he)
  have ne3 := Jv.Hand.ne2 hh2 hg
  have net : e ≠ t := fun z => by rw [z, upd_same] at he; cases he
  have neg1 : g ≠ e := fun z => by rw [z, upd_same] at hg; cases hg
  rw [upd_ne neg1] at hg
  have neg2 : g ≠ t := fun z => by rw [z, upd_same] at hg; cases hg
  rw [upd_ne neg2] at hg
  rw [upd_ne net] at he
  have s3 : Same H (L2.upd (L2.upd (L2.upd H t (.tup [V.int 1])) e (.lst [])) g (.lst [.bl true, .bl false, .non, .str (Str.ofString "1"), .int (-1), .int (L + 1), .ref t, .ref e, .str (Str.ofString ""), .int (10 ^ Int.toNat 20)])) := fun b o hb => by
    rw [upd_ne (ne_of_none hb hg), upd_ne (ne_of_none hb he), upd_ne (ne_of_none hb ht)]; exact hb
  have al : Jv.DvAll K (Jv.hide [p] (L2.upd (L2.upd (L2.upd H t (.tup [V.int 1])) e (.lst [])) g (.lst [.bl true, .bl false, .non, .str (Str.ofString "1"), .int (-1), .int (L + 1), .ref t, .ref e, .str (Str.ofString ""), .int (10 ^ Int.toNat 20)])))
      [.bl true, .bl false, .non, .str (Str.ofString "1"), .int (-1), .int (L + 1), .ref t, .ref e, .str (Str.ofString ""), .int (10 ^ Int.toNat 20)] (oddL L) := by
    refine .cons (.bl _) (.cons (.bl _) (.cons .non (.cons (.str _) (.cons (.int _) (.cons (.int _) (.cons (.tup (xs := [V.int 1]) (Jv.sqT_at (Jv.hide_one ne1.1 ?_)) (Jv.dv_ints [1])) (.cons (.lst (xs := []) (Jv.hide_one ne2.1 ?_) .nil) (.cons (.str _) (.cons (.int _) .nil)))))))))
    · rw [upd_ne neg2.symm, upd_ne net.symm, upd_same]
    · rw [upd_ne neg1.symm, upd_same]
  have hh3 := hh.same s3
  have row3 := row.same s3
  have atg : L2.upd (L2.upd (L2.upd H t (.tup [V.int 1])) e (.lst [])) g (.lst [.bl true, .bl false, .non, .str (Str.ofString "1"), .int (-1), .int (L + 1), .ref t, .ref e, .str (Str.ofString ""), .int (10 ^ Int.toNat 20)]) g = some (.lst [.bl true, .bl false, .non, .str (Str.ofString "1"), .int (-1), .int (L + 1), .ref t, .ref e, .str (Str.ofString ""), .int (10 ^ Int.toNat 20)]) := upd_same
  generalize L2.upd (L2.upd (L2.upd H t (.tup [V.int 1])) e (.lst [])) g (.lst [.bl true, .bl false, .non, .str (Str.ofString "1"), .int (-1), .int (L + 1), .ref t, .ref e, .str (Str.ofString ""), .int (10 ^ Int.toNat 20)]) = H3 at s3 al hh3 row3 atg
  walk_at "r"
  refine ⟨p, l, g, _, rfl, hh3, atg, ne3.1, by simp, fun i ov H4 hov kp4 hh4 => ?_⟩
  obtain ⟨od, hod, odv⟩ := al.at hov
  have op := odd_piece hL (List.mem_of_getElem? hod)
  have odv4 := odv.same (Jv.Kp.hide kp4)
  have row4 := row3.kp hh3 kp4
  have k04 := (Jv.Kp.same s3).trans kp4
  clear al row3 hh3 odv atg hov hod kp4 s3 hh1 hh2
  walk_at "r"
  refine ⟨p, l, _, rfl, hh4, ⟨by omega, Jv.log_small (by omega) (by omega)⟩, fun ch H5 c0 c1 kp5 hh5 => ?_⟩
  have odv5 := odv4.same (Jv.Kp.hide kp5)
  have row5 := row4.kp hh4 kp5
  have k05 := k04.trans kp5
  clear odv4 row4 k04 kp5 hh4 H4
  walk_at "r"
  refine Jv.r_decI (fun hc => ?_) (fun hc => ?_)
  · walk_at "r"
    refine fun d0 hd0 => ?_
    walk_at "r"
    intro d1 hd1
    walk_at "r"
    intro g2 hg2
    have m1 := Jv.Hand.ne2 hh5 hd0
    have hh6 := hh5.same (Jv.same_new (u := .dK []) hd0)
    have m2 := Jv.Hand.ne2 hh6 hd1
    have hh7 := hh6.same (Jv.same_new (u := .dK [(Sum.inl 0, V.int 1)]) hd1)
    have m3 := Jv.Hand.ne2 hh7 hg2
    have n10 : d1 ≠ d0 := fun z => by rw [z, upd_same] at hd1; cases hd1
    have n21 : g2 ≠ d1 := fun z => by rw [z, upd_same] at hg2; cases hg2
    rw [upd_ne n21] at hg2
    have n20 : g2 ≠ d0 := fun z => by rw [z, upd_same] at hg2; cases hg2
    rw [upd_ne n20] at hg2
    rw [upd_ne n10] at hd1
    walk_at "r"
    refine ⟨p, l, g2, _, rfl, hh7.same (Jv.same_new (by rw [upd_ne n21, upd_ne n20]; exact hg2)), upd_same, m3.1, by simp, fun i v H6 hv kp6 hh6' => ?_⟩
    have e0 : H6 d0 = some (.dK (([] : List (Int × Int)).map fun p => (.inl p.1, .int p.2))) := kp6 d0 _ m1.1 (by rw [upd_ne n20.symm, upd_ne n10.symm, upd_same]; rfl)
    have e1 : H6 d1 = some (.dK (([(0, 1)] : List (Int × Int)).map fun p => (.inl p.1, .int p.2))) := kp6 d1 _ m2.1 (by rw [upd_ne n21.symm, upd_same]; rfl)
    have kk : Jv.Kp p H H6 := k05.trans ((Jv.Kp.same fun b o hb => by rw [upd_ne (ne_of_none hb hg2), upd_ne (ne_of_none hb hd1), upd_ne (ne_of_none hb hd0)]; exact hb).trans kp6)
    walk_at "r"
    match i, hv with
    | 0, hv => cases hv; exact q _ _ _ kk hh6' (thing_flat (.dv .non) rfl trivial)
    | 1, hv => cases hv; exact q _ _ _ kk hh6' (thing_flat (.dv (.str _)) rfl (by show (reprText _).length ≤ sizeLine; decide +kernel))
    | 2, hv => cases hv; exact q _ _ _ kk hh6' (thing_flat (.dv (.int _)) rfl (by show Nat.log2 _ < 1920; decide +kernel))
    | 3, hv => cases hv; exact q _ _ _ kk hh6' (thing_flat (.dv (.bl _)) rfl trivial)
    | 4, hv => cases hv; exact q _ _ _ kk hh6' (thing_flat (.dct e0) rfl ⟨by decide +kernel, by decide +kernel, by decide +kernel⟩)
    | 5, hv => cases hv; exact q _ _ _ kk hh6' (thing_flat (.dct e1) rfl ⟨by decide +kernel, by decide +kernel, by decide +kernel⟩)
    | 6, hv => cases hv; exact q _ _ _ kk hh6' (thing_flat (.dv (.str _)) rfl (by show (reprText _).length ≤ sizeLine; decide +kernel))
    | 7, hv => cases hv; exact q _ _ _ kk hh6' (thing_flat (.dv (.int _)) rfl (by show Nat.log2 _ < 1920; decide +kernel))
    | n + 8, hv => simp at hv
  · have sq5 := row5.sq
    have sr5 := Same.refl H5
    have fin : ∀ (t : Addr) (H' : Hp) (zs : List V) (ds : List PyData), Jv.Kp p H H' → Jv.Hand H' p l → SqT K H' t zs → Jv.FzT H' t → Jv.DvAll K H' zs ds → ds.length ≤ 60 → (∀ d ∈ ds, Piece d) → Q (.ref t) H' := fun t H' zs ds k1 h1 q1 f1 al ln pc =>
      q _ _ _ k1 h1 (thing_seq (.tup q1 al) rfl ln (fun _ _ _ => ⟨t, rfl, f1⟩) pc)
    have pcs : ∀ (ms : List Int), (∀ m ∈ ms, m ∈ ns) → ∀ d ∈ ms.map PyData.int, Piece d := fun ms hm d m => by
      obtain ⟨z, hz, rfl⟩ := List.mem_map.mp m
      have := row5.bd z (hm z hz)
      exact piece_int (by omega)
    have lnr := row5.ln
    walk_at "r"
    refine ⟨p, l, _, rfl, hh5, ⟨by omega, Jv.log_small (by omega) (by rw [List.length_map]; omega)⟩, fun pl H6 p0 p1 kp6 hh6 => ?_⟩
    rw [List.length_map] at p1
    obtain ⟨j, rfl⟩ : ∃ j : Nat, pl = j := ⟨pl.toNat, by omega⟩
    have odv6 := odv5.same (Jv.Kp.hide kp6)
    have row6 := row5.kp hh5 kp6
    have k06 := k05.trans kp6
    have cut1 : ∀ k : Nat, cutV (ns.map V.int) none (some (k : Int)) = (ns.take k).map V.int := fun k => by
      unfold cutV
      rw [HT.sIx_none, HT.sIx_nat, List.drop_zero, Nat.sub_zero, ← List.take_take, List.take_length, List.map_take]
    have cut2 : ∀ k : Nat, k ≤ ns.length → cutV (ns.map V.int) (some (k : Int)) none = (ns.drop k).map V.int := fun k hk => by
      unfold cutV
      rw [HT.sIx_none, HT.sIx_nat, List.map_drop, List.take_of_length_le]
      · rw [List.length_map, Nat.min_eq_left hk]
      · simp
    clear odv5 row5 k05 kp6 sq5 sr5
    walk_at "r"
    refine Jv.r_dec (fun hc4 => ?_) (fun hc4 => ?_)
    · walk_at "r"
      refine Jv.r_slTo rfl rfl ?_
      refine Jv.r_slA row6.sq (cut1 j) fun t1 H7 s7 sq7 => ?_
      refine Jv.r_tupF ?_
      walk_at "r"
      intro t2 o2 ht2 hc2 hd2
      obtain ⟨s8, sq8, fz8⟩ := Jv.tupNew (K := K) (xs := [ov]) ht2 hc2 hd2
      refine Jv.r_catFr (Jv.Same.sqT s8 sq7) sq8 (by simp) fz8 (Jv.small_of (by simp; omega)) fun t3 H9 s9 sq9 fz9 => ?_
      refine Jv.r_slFrom rfl rfl ?_
      have s69 := s7.trans (s8.trans s9)
      refine Jv.r_slA (Jv.Same.sqT s69 row6.sq) (cut2 j (by omega)) fun t4 H10 s10 sq10 => ?_
      refine Jv.r_catFl (Jv.Same.sqT s10 sq9) sq10 (by simp) (fz9.same s10) (Jv.small_of (by simp; omega)) fun t5 H11 s11 sq11 fz11 => ?_
      have s611 := s69.trans (s10.trans s11)
      refine fin t5 H11 _ (((ns.take j).map .int ++ [od]) ++ (ns.drop j).map .int) (k06.trans (Jv.Kp.same s611)) (hh6.same s611) sq11 fz11 (((Jv.dv_ints _).app (.cons ((odv6.same Jv.hide_le).same s611) .nil)).app (Jv.dv_ints _)) (by simp; omega) fun d m => ?_
      rcases List.mem_append.mp m with m | m
      · rcases List.mem_append.mp m with m | m
        · exact pcs _ (fun m hm => List.mem_of_mem_take hm) d m
        · rw [List.mem_singleton.mp m]; exact op
      · exact pcs _ (fun m hm => List.mem_of_mem_drop hm) d m
    · walk_at "r"
      refine Jv.r_dec (fun hc6 => ?_) (fun hc6 => ?_)
      · rw [if_pos rfl]
        walk_at "r"
        refine Jv.r_tupF ?_
        walk_at "r"
        refine ⟨p, l, _, rfl, hh6, ⟨by omega, Jv.log_small (by omega) (by omega)⟩, fun z H8 z0 z1 kp8 hh8 => ?_⟩
        walk_at "r"
        intro t2 o2 ht2 hc2 hd2
        obtain ⟨s9, sq9, fz9⟩ := Jv.tupNew (K := K) (xs := [V.int z]) ht2 hc2 hd2
        refine Jv.r_catFr (Jv.Same.sqT s9 (row6.kp hh6 kp8).sq) sq9 (by simp) fz9 (Jv.small_of (by simp; omega)) fun t3 H10 s10 sq10 fz10 => ?_
        refine fin t3 H10 _ (ns.map .int ++ [.int z]) (k06.trans (kp8.trans (Jv.Kp.same (s9.trans s10)))) (hh8.same (s9.trans s10)) sq10 fz10 ((Jv.dv_ints _).app (.cons (.int _) .nil)) (by simp; omega) fun d m => ?_
        rcases List.mem_append.mp m with m | m
        · exact pcs _ (fun _ h => h) d m
        · rw [List.mem_singleton.mp m]; exact piece_int (by omega)
      · walk_at "r"
        intro em hem
        have s7 := Jv.same_new (u := .tup []) hem
        have dem : Jv.Dv K (L2.upd H6 em (.tup [])) (.ref em) (.tuple (([] : List Int).map .int)) := Jv.tupI (ns := []) (Jv.sqT_at upd_same)
        have row7 := row6.same s7
        have hh7 := hh6.same s7
        have k07 := k06.trans (Jv.Kp.same s7)
        have odv7 := odv6.same (Jv.hide_same s7)
        generalize L2.upd H6 em (.tup []) = H7 at s7 dem row7 hh7 k07 odv7
        by_cases hns : ns = []
        · refine Jv.eq_self (Jv.tupI row7.sq) (by rw [hns]; exact dem) (Jv.shapedT _) ?_
          walk_at "r"
          refine Jv.r_tupF ?_
          walk_at "r"
          refine ⟨p, l, _, rfl, hh7, ⟨by omega, Jv.log_small (by omega) (by omega)⟩, fun z H8 z0 z1 kp8 hh8 => ?_⟩
          walk_at "r"
          intro t2 o2 ht2 hc2 hd2
          obtain ⟨s9, sq9, fz9⟩ := Jv.tupNew (K := K) (xs := [V.int z]) ht2 hc2 hd2
          refine Jv.r_catFr (Jv.Same.sqT s9 (row7.kp hh7 kp8).sq) sq9 (by simp) fz9 (Jv.small_of (by simp; omega)) fun t3 H10 s10 sq10 fz10 => ?_
          refine fin t3 H10 _ (ns.map .int ++ [.int z]) (k07.trans (kp8.trans (Jv.Kp.same (s9.trans s10)))) (hh8.same (s9.trans s10)) sq10 fz10 ((Jv.dv_ints _).app (.cons (.int _) .nil)) (by simp; omega) fun d m => ?_
          rcases List.mem_append.mp m with m | m
          · exact pcs _ (fun _ h => h) d m
          · rw [List.mem_singleton.mp m]; exact piece_int (by omega)
        · refine ⟨_, _, (Jv.tupI row7.sq).dp, dem.dp, Jv.shapedT _, Jv.shapedT _, ?_⟩
          have ne : PyData.eqv (.tuple (ns.map .int)) (.tuple (([] : List Int).map .int)) = false := by
            cases ns with
            | nil => exact absurd rfl hns
            | cons n r => simp [PyData.eqv, PyData.eqvAll]
          rw [ne]
          have sq7 := row7.sq
          have sr7 := Same.refl H7
          have nl : 0 < ns.length := by
            cases ns with
            | nil => exact absurd rfl hns
            | cons n r => simp
          walk_at "r"
          refine ⟨p, l, _, rfl, hh7, ⟨by rw [List.length_map]; omega, Jv.log_small (by rw [List.length_map]; omega) (by rw [List.length_map]; omega)⟩, fun pl H8 q0 q1 kp8 hh8 => ?_⟩
          rw [List.length_map] at q1
          obtain ⟨k, rfl⟩ : ∃ k : Nat, pl = k := ⟨pl.toNat, by omega⟩
          have odv8 := odv7.same (Jv.Kp.hide kp8)
          have row8 := row7.kp hh7 kp8
          have k08 := k07.trans kp8
          clear odv7 row7 k07 kp8 sq7 sr7 dem odv6 row6 k06 hh6
          walk_at "r"
          refine Jv.r_slTo rfl rfl ?_
          refine Jv.r_slA row8.sq (cut1 k) fun t1 H9 s9 sq9 => ?_
          refine Jv.r_tupF ?_
          have hh9 := hh8.same s9
          have odv9 := odv8.same (Jv.hide_same s9)
          have row9 := row8.same s9
          have k09 := k08.trans (Jv.Kp.same s9)
          walk_at "r"
          refine ⟨p, l, _, rfl, hh9, ⟨by omega, Jv.log_small (by omega) (by omega)⟩, fun z H10 z0 z1 kp10 hh10 => ?_⟩
          have sq10 := Jv.SqT.kp sq9 hh9 kp10
          have odv10 := odv9.same (Jv.Kp.hide kp10)
          have row10 := row9.kp hh9 kp10
          have k010 := k09.trans kp10
          walk_at "r"
          intro g3 hg3
          have m3 := Jv.Hand.ne2 hh10 hg3
          have s11 := Jv.same_new (u := .lst [ov, V.int z]) hg3
          walk_at "r"
          refine ⟨p, l, g3, _, rfl, hh10.same s11, upd_same, m3.1, by simp, fun i v H12 hv kp12 hh12 => ?_⟩
          have odv11 := odv10.same (Jv.hide_same s11)
          have row12 := (row10.same s11).kp (hh10.same s11) kp12
          have sq12 := Jv.SqT.kp (Jv.Same.sqT s11 sq10) (hh10.same s11) kp12
          have k012 := k010.trans ((Jv.Kp.same s11).trans kp12)
          have odv12 := odv11.same (Jv.Kp.hide kp12)
          obtain ⟨vd, vdv, vp⟩ : ∃ vd, Jv.Dv K H12 v vd ∧ Piece vd := by
            match i, hv with
            | 0, hv => cases hv; exact ⟨od, odv12.same Jv.hide_le, op⟩
            | 1, hv => cases hv; exact ⟨_, .int z, piece_int (by omega)⟩
            | n + 2, hv => simp at hv
          clear odv8 odv9 odv10 odv11 odv12 row8 row9 row10 sq9 sq10
          walk_at "r"
          intro t2 o2 ht2 hc2 hd2
          obtain ⟨s13, sq13, fz13⟩ := Jv.tupNew (K := K) (xs := [v]) ht2 hc2 hd2
          refine Jv.r_catFr (Jv.Same.sqT s13 sq12) sq13 (by simp) fz13 (Jv.small_of (by simp; omega)) fun t3 H14 s14 sq14 fz14 => ?_
          have s124 := s13.trans s14
          walk_at "r"
          refine Jv.r_slFromP (k := (k : Int)) (m := 1) rfl rfl ?_
          have cut3 : cutV (ns.map V.int) (some ((k : Int) + 1)) none = (ns.drop (k + 1)).map V.int := by rw [show (k : Int) + 1 = ((k + 1 : Nat) : Int) by omega]; exact cut2 (k + 1) (by omega)
          refine Jv.r_slA (Jv.Same.sqT s124 row12.sq) cut3 fun t4 H15 s15 sq15 => ?_
          refine Jv.r_catFl (Jv.Same.sqT s15 sq14) sq15 (by simp) (fz14.same s15) (Jv.small_of (by simp; omega)) fun t5 H16 s16 sq16 fz16 => ?_
          have s126 := s124.trans (s15.trans s16)
          refine fin t5 H16 _ (((ns.take k).map .int ++ [vd]) ++ (ns.drop (k + 1)).map .int) (k012.trans (Jv.Kp.same s126)) (hh12.same s126) sq16 fz16 (((Jv.dv_ints _).app (.cons (vdv.same s126) .nil)).app (Jv.dv_ints _)) (by simp; omega) fun d m => ?_
          rcases List.mem_append.mp m with m | m
          · rcases List.mem_append.mp m with m | m
            · exact pcs _ (fun m hm => List.mem_of_mem_take hm) d m
            · rw [List.mem_singleton.mp m]; exact vp
          · exact pcs _ (fun m hm => List.mem_of_mem_drop hm) d m
end
end K09

namespace Jv
open PySem PySem.Spec PyProof.Rows L2
/-! ### rows of a level -/
theorem FzT.lstU {H : Hp} {a b : Addr} {us : List V} {o : HO} (ha : H a = some (.lst us)) (h : FzT H b) : FzT (upd H a o) b := by
  obtain ⟨ob, u, e, c⟩ := h
  exact ⟨ob, u, kpO e (fun z => by rw [z, ha] at e; cases e), c⟩
inductive Rws (K : PySem.W.Frag) (H : Hp) : List V → List (List Int) → Prop
  | nil : Rws K H [] []
  | cons {a : Addr} {vs : List V} {ns : List Int} {cs : List (List Int)} : SqT K H a (ns.map V.int) → (ns ≠ [] → FzT H a) → Rws K H vs cs → Rws K H (.ref a :: vs) (ns :: cs)
section
variable {K : PySem.W.Frag} {H H' : Hp} {vs ws : List V} {cs es : List (List Int)}
theorem Rws.same (s : Same H H') : ∀ {vs : List V} {cs : List (List Int)}, Rws K H vs cs → Rws K H' vs cs
  | _, _, .nil => .nil
  | _, _, .cons a b c => .cons (Jv.Same.sqT s a) (fun n => (b n).same s) (Rws.same s c)
theorem Rws.lstU {a : Addr} {us : List V} {o : HO} (ha : H a = some (.lst us)) : ∀ {vs : List V} {cs : List (List Int)}, Rws K H vs cs → Rws K (upd H a o) vs cs
  | _, _, .nil => .nil
  | _, _, .cons a b c => .cons (SqT.lstU ha a) (fun n => (b n).lstU ha) (Rws.lstU ha c)
theorem Rws.app : ∀ {vs ws : List V} {cs es : List (List Int)}, Rws K H vs cs → Rws K H ws es → Rws K H (vs ++ ws) (cs ++ es)
  | _, _, _, _, .nil, q => q
  | _, _, _, _, .cons a b c, q => .cons a b (Rws.app c q)
theorem Rws.len : ∀ {vs : List V} {cs : List (List Int)}, Rws K H vs cs → vs.length = cs.length
  | _, _, .nil => rfl
  | _, _, .cons _ _ c => by simp [Rws.len c]
theorem Rws.at : ∀ {vs : List V} {cs : List (List Int)} {i : Nat} {x : V}, Rws K H vs cs → vs[i]? = some x → ∃ a ns, x = .ref a ∧ cs[i]? = some ns ∧ SqT K H a (ns.map V.int) ∧ (ns ≠ [] → FzT H a)
  | _, _, 0, _, .cons a b _, e => by cases e; exact ⟨_, _, rfl, rfl, a, b⟩
  | _, _, n + 1, _, .cons (vs := vs) (cs := cs) _ _ c, e => by
    obtain ⟨a, m, h1, h2, h3⟩ := Rws.at (i := n) c (by simpa using e)
    exact ⟨a, m, h1, by simpa using h2, h3⟩
theorem Rws.dv : ∀ {vs : List V} {cs : List (List Int)}, Rws K H vs cs → DvAll K H vs (cs.map fun ns => .tuple (ns.map .int))
  | _, _, .nil => .nil
  | _, _, .cons a _ c => .cons (.tup a (dv_ints _)) c.dv
theorem take_moreG {α : Type} {xs : List α} {i : Nat} {x : α} (h : xs[i]? = some x) : xs.take (i + 1) = xs.take i ++ [x] := by
  rw [List.take_add_one, h]; rfl
/-- each of some words behind a row -/
theorem lcR {σ : L2.St} {te : TE} {Q : VK} {J : It} {G : Hp → Prop} {Y : Nat → Hp → V → Hp → Prop} {n j : Nat} {zs row : List Int} (w : Walk J n G Y) (hn : zs.length = n) (hG : ∀ H', Same H H' → G H')
    (hy : ∀ i H x H', i < n → Y i H x H' → H' = H ∧ ∃ z, zs[i]? = some z ∧ x = .int z) (few : n ≤ 900)
    (hs : ∀ z H1, Same H H1 → ∀ P : VK, (∀ t H2, Same H1 H2 → SqT K H2 t ((row ++ [z]).map V.int) → FzT H2 t → P (.ref t) H2) → te ((σ.set j none).set j (some (.int z))) H1 P)
    (hd : ∀ D vs H1, Same H H1 → H D = none → H1 D = some (.lst vs) → Rws K H1 vs (zs.map fun z => row ++ [z]) → Q (.ref D) H1) : ∀ D, H D = none → ∃ W : Nat → Nat → Hp → Prop, (∃ m, W 0 m (upd H D (.lst []))) ∧ ∀ i m H, W i m H →
      (J.stop i H ∧ Q (.ref D) H) ∨ (J.go i H ∧ ∃ Nx : Hp → Prop, (∀ H', Nx H' → ∃ m', m' < m ∧ W (i + 1) m' H') ∧ ∀ x H', J.yld i H x H' → gName j x (wipe σ [j]) H' fun σ2 H2 => wipe σ2 [j] = wipe σ [j] ∧ tYes σ2 H2 fun b H3 =>
        if b = true then te σ2 H3 fun y H4 => ∃ acc, H4 D = some (.lst acc) ∧ acc.length < sizeLine ∧ Nx (upd H4 D (.lst (acc ++ [y]))) else Nx H3) := by
  intro D hD
  refine lc_it w (fun i H1 => Same H H1 ∧ ∃ vs, H1 D = some (.lst vs) ∧ Rws K H1 vs ((zs.take i).map fun z => row ++ [z])) ⟨same_new hD, [], upd_same, .nil⟩ (fun i H1 _ h => hG H1 h.1) ?_ ?_
  · rintro i x H1 H2 hi ⟨s1, vs, e1, r1⟩ hx
    obtain ⟨rfl, z, hz, rfl⟩ := hy i _ _ _ hi hx
    refine ⟨wipe1, r_yes (r_ift ?_)⟩
    refine hs z H2 s1 _ fun t H3 s3 sq fz => ⟨vs, s3 _ _ e1, ?_, fun b o e => kpO (s3 _ _ (s1 b o e)) (ne_of_none e hD), vs ++ [.ref t], upd_same, ?_⟩
    · rw [r1.len, List.length_map, List.length_take]
      exact small_lt (by omega)
    · rw [take_moreG hz, List.map_append]
      exact Rws.lstU (s3 _ _ e1) ((r1.same s3).app (.cons sq (fun _ => fz) .nil))
  · rintro H1 ⟨s1, vs, e1, r1⟩
    rw [List.take_of_length_le (by omega)] at r1
    exact hd D vs H1 s1 hD e1 r1
/-- t + (w,) -/
theorem r_more {σ : L2.St} {P : VK} {r w : Nat} {a : Addr} {ns : List Int} {z : Int} (h1 : σ[r]? = some (some (.ref a))) (h2 : σ[w]? = some (some (.int z))) (h : SqT K H a (ns.map V.int)) (few : ns.length ≤ 900)
    (q : ∀ t H2, Same H H2 → SqT K H2 t ((ns ++ [z]).map V.int) → FzT H2 t → P (.ref t) H2) : tOp (rCatF K) (tVar r) (tTupF (tCons (tVar w) tNil)) σ H P := by
  refine ⟨_, h1, _, h2, Jv.small_of (by simp), fun t2 o2 ht2 hc2 hd2 => ?_⟩
  obtain ⟨s8, sq8, fz8⟩ := Jv.tupNew (K := K) (xs := [V.int z]) ht2 hc2 hd2
  refine Jv.r_catFr (Jv.Same.sqT s8 h) sq8 (by simp) fz8 (Jv.small_of (by simp; omega)) fun t3 H9 s9 sq9 fz9 => ?_
  exact q t3 H9 (s8.trans s9) (by rw [List.map_append]; exact sq9) fz9
theorem lcR4 {σ : L2.St} {te : TE} {Q : VK} {j : Nat} {row : List Int}
    (hs : ∀ z H1, Same H H1 → ∀ P : VK, (∀ t H2, Same H1 H2 → SqT K H2 t ((row ++ [z]).map V.int) → FzT H2 t → P (.ref t) H2) → te ((σ.set j none).set j (some (.int z))) H1 P)
    (hd : ∀ D vs H1, Same H H1 → H D = none → H1 D = some (.lst vs) → Rws K H1 vs (([0, 1, 2, 3] : List Int).map fun z => row ++ [z]) → Q (.ref D) H1) : tLc (iRng1 (tCons (tC (.int 4)) tNil)) (gName j) tYes te [j] σ H Q := by
  refine ⟨_, rfl, by decide, by decide, lcR (zs := [0, 1, 2, 3]) (row := row) (n := Int.toNat 4) (Y := YFn fun i => .int (0 + (i : Int))) (G := fun _ => True) walk_range rfl (fun _ _ => trivial) (fun i H x H' hi hy => ⟨hy.1, ?_⟩) (by decide) hs hd⟩
  have hi4 : i < 4 := hi
  match i, hi4, hy with
  | 0, _, hy => exact ⟨0, rfl, hy.2⟩
  | 1, _, hy => exact ⟨1, rfl, hy.2⟩
  | 2, _, hy => exact ⟨2, rfl, hy.2⟩
  | 3, _, hy => exact ⟨3, rfl, hy.2⟩
/-- each of the words of a list -/
theorem lcRL {σ : L2.St} {te te0 : TE} {Q : VK} {j : Nat} {row zs : List Int} (few : zs.length ≤ 900) (hit : ∀ P : VK, (∀ t H1, Same H H1 → H1 t = some (.lst (zs.map V.int)) → P (.ref t) H1) → te0 σ H P)
    (hs : ∀ z H1, Same H H1 → ∀ P : VK, (∀ t H2, Same H1 H2 → SqT K H2 t ((row ++ [z]).map V.int) → FzT H2 t → P (.ref t) H2) → te ((σ.set j none).set j (some (.int z))) H1 P)
    (hd : ∀ D vs H1, Same H H1 → H1 D = some (.lst vs) → Rws K H1 vs (zs.map fun z => row ++ [z]) → Q (.ref D) H1) : tLc (iList K te0) (gName j) tYes te [j] σ H Q := by
  refine hit _ fun t H1 s1 e1 => ⟨t, rfl, ⟨_, sqL_at e1⟩, lcR (zs := zs) (row := row) (n := (zs.map V.int).length) walk_list (by rw [List.length_map]) (fun H' s => s.seq (sqL_at e1)) (fun i H x H' hi hy => ⟨hy.1, ?_⟩) (by rw [List.length_map]; exact few)
    (fun z H2 s2 P hP => hs z H2 (s1.trans s2) P hP) (fun D vs H2 s2 _ e r => hd D vs H2 (s1.trans s2) e r)⟩
  obtain ⟨z, hz, e⟩ := map_at hy.2
  exact ⟨z, hz, e⟩
/-- the rows at which a test holds -/
theorem lcRF {σ : L2.St} {tt : TT} {te : TE} {Q : VK} {i j : Nat} {a : Addr} (hv : σ[i]? = some (some (.ref a))) (e : H a = some (.lst vs)) (r : Rws K H vs cs) (f : List Int → Bool) (few : cs.length ≤ 950)
    (ht : ∀ b ns H1, ns ∈ cs → Same H H1 → SqT K H1 b (ns.map V.int) → ∀ R : Bool → Hp → Prop, R (f ns) H1 → tt ((σ.set j none).set j (some (.ref b))) H1 R)
    (hs : ∀ b H1, ∀ P : VK, P (.ref b) H1 → te ((σ.set j none).set j (some (.ref b))) H1 P)
    (hd : ∀ D us H1, Same H H1 → H D = none → H1 D = some (.lst us) → Rws K H1 us (cs.filter f) → Q (.ref D) H1) : tLc (iList K (tVar i)) (gName j) tt te [j] σ H Q := by
  refine ⟨_, hv, a, rfl, ⟨_, sqL_at e⟩, fun D hD => ?_⟩
  refine lc_it (walk_list (K := K) (a := a) (xs := vs)) (fun i H1 => Same H H1 ∧ ∃ us, H1 D = some (.lst us) ∧ Rws K H1 us ((cs.take i).filter f)) ⟨same_new hD, [], upd_same, .nil⟩ (fun i H1 _ h => h.1.seq (sqL_at e)) ?_ ?_
  · rintro i x H1 H2 hi ⟨s1, us, e1, r1⟩ ⟨rfl, hx⟩
    obtain ⟨b, ns, rfl, hns, sq, fz⟩ := (r.same s1).at hx
    refine ⟨wipe1, ht b ns _ (List.mem_of_getElem? hns) s1 sq _ ?_⟩
    have lu : us.length ≤ 950 := by
      rw [r1.len]
      exact Nat.le_trans (List.length_filter_le _ _) (by rw [List.length_take]; omega)
    by_cases c : f ns = true
    · rw [if_pos c]
      refine hs b _ _ ⟨us, e1, small_lt (by omega), fun b o h => kpO (s1 b o h) (ne_of_none h hD), us ++ [.ref b], upd_same, ?_⟩
      rw [take_moreG hns, List.filter_append]
      have : [ns].filter f = [ns] := by simp [c]
      rw [this]
      exact Rws.lstU e1 (r1.app (.cons sq fz .nil))
    · rw [if_neg c]
      refine ⟨s1, us, e1, ?_⟩
      rw [take_moreG hns, List.filter_append]
      have : [ns].filter f = [] := by simp [c]
      rw [this, List.append_nil]
      exact r1
  · rintro H1 ⟨s1, us, e1, r1⟩
    rw [r.len, List.take_length] at r1
    exact hd D us H1 s1 hD e1 r1
end
end Jv
namespace K09
open PySem PySem.Spec PyProof.Rows L2
/-! ### levels -/
def growI (f : List Int → List Int) (lv : List (List Int)) : List (List Int) := lv.flatMap fun r => (f r).map fun w => r ++ [w]
theorem grow_more {f : List Int → List Int} {lv : List (List Int)} {i : Nat} {r : List Int} (h : lv[i]? = some r) : growI f (lv.take (i + 1)) = growI f (lv.take i) ++ (f r).map fun w => r ++ [w] := by
  unfold growI
  rw [Jv.take_moreG h, List.flatMap_append]
  simp
theorem grow_mem {f : List Int → List Int} {lv : List (List Int)} {r : List Int} (h : r ∈ growI f lv) : ∃ q w, q ∈ lv ∧ w ∈ f q ∧ r = q ++ [w] := by
  unfold growI at h
  obtain ⟨q, hq, h⟩ := List.mem_flatMap.mp h
  obtain ⟨w, hw, rfl⟩ := List.mem_map.mp h
  exact ⟨q, w, hq, hw, rfl⟩
theorem grow_take {f : List Int → List Int} {lv : List (List Int)} {i : Nat} : (growI f (lv.take i)).length ≤ (growI f lv).length := by
  have h : growI f lv = growI f (lv.take i) ++ growI f (lv.drop i) := by
    unfold growI
    rw [← List.flatMap_append, List.take_append_drop]
  rw [h, List.length_append]; omega
def lvlS : Nat → List (List Int)
  | 0 => [[]]
  | n + 1 => growI (fun _ => [0, 1, 2, 3]) (lvlS n)
def lvlI (L : Int) : Nat → List (List Int)
  | 0 => [[]]
  | n + 1 => growI (fun r => nextsI L (Jv.topI r)) (lvlI L n)
def callI (r : List Int) : Bool := match r.getLast? with
  | some z => decide (0 < z)
  | none => false
def outI (L : Int) : Nat → List (List Int)
  | 0 => [[]]
  | n + 1 => outI L n ++ (lvlI L (n + 1)).filter callI
theorem call_at {ns : List Int} {z : Int} (h : ns[ns.length - 1]? = some z) : callI ns = decide (0 < z) := by
  unfold callI
  rw [List.getLast?_eq_getElem?, h]
theorem lvlS_mem : ∀ {n : Nat} {r : List Int}, r ∈ lvlS n → r.length = n ∧ ∀ z ∈ r, 0 ≤ z ∧ z ≤ 3
  | 0, r, h => by rw [List.mem_singleton.mp h]; simp
  | n + 1, r, h => by
    obtain ⟨q, w, hq, hw, rfl⟩ := grow_mem h
    obtain ⟨h1, h2⟩ := lvlS_mem hq
    refine ⟨by simp [h1], fun z m => ?_⟩
    rcases List.mem_append.mp m with m | m
    · exact h2 z m
    · rw [List.mem_singleton.mp m]
      simp only [List.mem_cons, List.not_mem_nil, or_false] at hw
      omega
theorem lvlI_mem {L : Int} (h0 : 0 ≤ L) : ∀ {n : Nat} {r : List Int}, r ∈ lvlI L n → r.length = n ∧ ∀ z ∈ r, 0 ≤ z ∧ z ≤ L
  | 0, r, h => by rw [List.mem_singleton.mp h]; simp
  | n + 1, r, h => by
    obtain ⟨q, w, hq, hw, rfl⟩ := grow_mem h
    obtain ⟨h1, h2⟩ := lvlI_mem h0 hq
    refine ⟨by simp [h1], fun z m => ?_⟩
    rcases List.mem_append.mp m with m | m
    · exact h2 z m
    · rw [List.mem_singleton.mp m]
      exact ((nexts_mem h0 Jv.topI_0).mp hw).1
theorem lvlS_len : ∀ n : Fin 5, (lvlS n.1).length ≤ 256 := by decide +kernel
theorem lvl_len0 : ∀ l n : Fin 7, n.1 ≤ l.1 → (lvlI (l.1 : Int) n.1).length ≤ 924 ∧ (outI (l.1 : Int) n.1).length ≤ 924 := by decide +kernel
theorem lvl_len {L : Int} (h : 0 ≤ L ∧ L ≤ 6) {n : Nat} (hn : (n : Int) ≤ L) : (lvlI L n).length ≤ 924 ∧ (outI L n).length ≤ 924 := by
  obtain ⟨l, rfl⟩ : ∃ l : Nat, L = l := ⟨L.toNat, by omega⟩
  exact lvl_len0 ⟨l, by omega⟩ ⟨n, by omega⟩ (by simp; omega)
end K09

namespace K09
open PySem PySem.Spec PyProof.Rows L2
/-! ### all small sequences; foes' rows -/
def sp_Lsmall : Sp := fun vs H Q _ => ∃ L f, vs = [.int L, .bl f] ∧ (0 ≤ L ∧ L ≤ 100) ∧ ∀ H', Same H H' → Q (.bl true) H'
def sp_Lfoe_rows (K : PySem.W.Frag) : Sp := fun vs H Q _ => ∃ L, vs = [.int L] ∧ (0 ≤ L ∧ L ≤ 6) ∧ ∀ r us H', Same H H' → H' r = some (.lst us) → Jv.Rws K H' us (outI L L.toNat) → Q (.ref r) H'
section
variable {P : Program} {w : World} {K : PySem.W.Frag} {mg : Str → Option Value} {base : Heap}
theorem ok_Lsmall (T : Tx) (O : Ok K mg T) : Jv.FnG P w K mg base CX0 7 T.f_Lsmall T.d_Lsmall ["_law_ladder", "_law_foes"] sp_Lsmall := by
  refine Jv.fun_okG O.F_Lsmall sc_Lsmall (fun vs H Q E h => by obtain ⟨_, _, rfl, _⟩ := h; rfl) (fun cdv A outer s H vs Q E gd0 hr h => ?_)
  have gd := Jv.gd_body (CX := CX0) (P := P) (w := w) (K := K) (mg := mg) (base := base) (N := ["_law_ladder", "_law_foes", "_law_level", "_law_size", "_law_thing", "_law_following", "_law_word"]) (qual := "_law_small") (scope := defScope s_Lsmall) (f := T.f_Lsmall) (cd := cdv) (outer := outer) (s := s) (H := H) (E := E) gd0
  obtain ⟨L, f, rfl, hL, q⟩ := h
  refine ⟨_, (pss_cons (ps_set (i := 2) sc_Lsmall.nd rfl (Or.inl rfl) (pe_lst (pa_cons (show PE _ _ (Jv.tTupF _) from Jv.pe_tupF pa_nil) pa_nil)))
  (pss_cons (ps_for PassesOwn.never rfl (pi_range1 (by rfl) O.z_range (pa_cons pe_int pa_nil)) (pg_name (i := 3) sc_Lsmall.nd rfl (Or.inl rfl)) (pss_cons (ps_for PassesOwn.never rfl (show PI _ _ _ (iList K _) from pi_list (pv 2)) (pg_name (i := 4) sc_Lsmall.nd rfl (Or.inr rfl)) (pss_one (ps_if (pt_not (pt_val (Jv.pe_callG (ok_Lasked T O) gd (hr.mono (by decide)) (by rfl) O.m_Lasked O.F_Lasked.kp O.b_Lasked .nil pass0 (pa_cons (pv 4) (pa_cons (pv 0) (pa_cons (pv 1) pa_nil)))))) (pss_one (ps_ret pe_bl)) pss_nil)))
  (pss_cons (ps_set (i := 5) sc_Lsmall.nd rfl (Or.inl rfl) (pe_lst pa_nil))
  (pss_cons (ps_for PassesOwn.never rfl (show PI _ _ _ (iList K _) from pi_list (pv 2)) (pg_name (i := 4) sc_Lsmall.nd rfl (Or.inr rfl)) (pss_one (ps_set (i := 5) sc_Lsmall.nd rfl (Or.inl rfl) (pe_op op_cat (pv 5) (pe_lc (own := [("_law_word", 6)]) (by rfl) sc_Lsmall.nd (pi_range1 (by rfl) O.z_range (pa_cons pe_int pa_nil)) (blkOk_by (own := [("_law_word", 6)]) (N := ["_law_ladder", "_law_foes", "_law_level", "_law_size", "_law_thing", "_law_following", "_law_word"]) (sc := defScope s_Lsmall) (scope := ({ kind := .function, names := [(".0", .local), ("_law_word", .local), ("_law_thing", .free)], isGenerator := false, isCoroutine := false } : Scope)) (by decide +kernel)) (fun _ _ _ _ _ => (pg_name (i := 6) sc_Lsmall.nd rfl (Or.inl rfl))) (fun _ _ _ _ _ => pts_nil) (fun _ _ _ _ _ => (pe_op (r := Jv.rCatF K) Jv.op_catF (pv 4) (show PE _ _ (Jv.tTupF _) from Jv.pe_tupF (pa_cons (pv 6) pa_nil)))))))))
  (pss_one (ps_set (i := 2) sc_Lsmall.nd rfl (Or.inl rfl) (pe_ifExp (pt_cmpR op_lt (pv 3) pe_int (nomark _)) (pv 5) (pe_lst pa_nil))))))))
  (pss_one (ps_ret pe_bl)))), ?_⟩
  walk_at "r"
  refine ⟨by simp, fun t0 o0 ht0 hc0 hd0 => ?_⟩
  obtain ⟨s0, sq0, fz0⟩ := Jv.tupNew (K := K) (xs := []) ht0 hc0 hd0
  generalize L2.upd H t0 (.frz o0 (.tup [])) = H0 at s0 sq0 fz0
  walk_at "r"
  intro g0 hg0
  have s1 := Jv.same_new (u := .lst [V.ref t0]) hg0
  have e1 : upd H0 g0 (.lst [V.ref t0]) g0 = some (.lst [V.ref t0]) := upd_same
  generalize upd H0 g0 (.lst [V.ref t0]) = H1 at s1 e1
  have r1 : Jv.Rws K H1 [V.ref t0] (lvlS 0) := .cons (ns := []) (Jv.Same.sqT s1 sq0) (fun n => absurd rfl n) .nil
  have s01 := s0.trans s1
  clear s0 sq0 fz0 s1 hg0 ht0
  walk_at "r"
  refine ⟨_, rfl, by omega, by omega, for_range (lo := 0) (n := Int.toNat 4) (fun j σ H' => ∃ lv vs y3 y4 y5 y6, σ = [some (.int L), some (.bl f), some (.ref lv), y3, y4, y5, y6] ∧ Same H H' ∧ H' lv = some (.lst vs) ∧ (j < 4 → Jv.Rws K H' vs (lvlS j))) ⟨g0, _, _, _, _, _, rfl, s01, e1, fun _ => r1⟩ ?_ ?_⟩
  · rintro j σ H2 hj ⟨lv, vs, y3, y4, y5, y6, rfl, s02, e2, r2⟩
    have hj : j < 4 := hj
    have r2 := r2 hj
    walk_at "r"
    refine ⟨lv, rfl, ⟨_, Jv.sqL_at e2⟩, for_it (walk_list (K := K) (a := lv) (xs := vs)) (fun i σ H' => ∃ y4, σ = [some (.int L), some (.bl f), some (.ref lv), some (.int (0 + (j : Int))), y4, y5, y6] ∧ Same H2 H') ⟨_, rfl, Same.refl _⟩ (fun i σ H' _ ⟨_, _, s'⟩ => s'.seq (Jv.sqL_at e2)) ?_ ?_⟩
    · rintro i x σ H3 H3' hi ⟨y4', rfl, s23⟩ ⟨rfl, hx⟩
      obtain ⟨a, ns, rfl, hns, sq, fz⟩ := (r2.same s23).at hx
      obtain ⟨ln, bd⟩ := lvlS_mem (List.mem_of_getElem? hns)
      walk_at "r"
      refine ⟨.ref a, _, L, f, rfl, hL, thing_tup sq fz (by omega) (fun n m => by have := bd n m; omega), fun H4 s4 => ?_⟩
      walk_at "r"
      exact ⟨_, rfl, s23.trans s4⟩
    · rintro σ H3 ⟨y4', rfl, s23⟩
      walk_at "r"
      intro g5 hg5
      have s35 := Jv.same_new (u := .lst []) hg5
      have e5 : upd H3 g5 (.lst []) g5 = some (.lst []) := upd_same
      generalize upd H3 g5 (.lst []) = H5 at s35 e5
      have s25 := s23.trans s35
      have r5 := r2.same s25
      walk_at "r"
      refine ⟨lv, rfl, ⟨_, Jv.sqL_at (s25 _ _ e2)⟩, for_it (walk_list (K := K) (a := lv) (xs := vs)) (fun i σ H' => ∃ y4 fo us y6, σ = [some (.int L), some (.bl f), some (.ref lv), some (.int (0 + (j : Int))), y4, some (.ref fo), y6] ∧ Same H5 H' ∧ H' fo = some (.lst us) ∧ Jv.Rws K H' us (growI (fun _ => [0, 1, 2, 3]) ((lvlS j).take i))) ⟨_, g5, [], _, rfl, Same.refl _, e5, .nil⟩ (fun i σ H' _ ⟨_, _, _, _, _, s', _⟩ => s'.seq (Jv.sqL_at (s25 _ _ e2))) ?_ ?_⟩
      · rintro i x σ H6 H6' hi ⟨y4', fo, us, y6', rfl, s56, e6, r6⟩ ⟨rfl, hx⟩
        obtain ⟨a, ns, rfl, hns, sq, fz⟩ := (r5.same s56).at hx
        obtain ⟨ln, bd⟩ := lvlS_mem (List.mem_of_getElem? hns)
        walk_at "r"
        refine Jv.lcR4 (K := K) (row := ns) (j := 6) (fun z H7 s7 P hP => Jv.r_more (r := 4) (w := 6) rfl rfl (Jv.Same.sqT s7 sq) (by omega) hP) (fun D ws H7 s7 hD eD rD => ?_)
        refine Jv.r_cat (s7 _ _ e6) eD (Jv.small_of ?_) fun p H8 hp s8 ep => ?_
        · have h1 := r6.len
          have h2 := rD.len
          have h4 : (growI (fun _ => [0, 1, 2, 3]) ((lvlS j).take i)).length ≤ (lvlS (j + 1)).length := grow_take
          have h5 := lvlS_len ⟨j + 1, by omega⟩
          rw [List.length_map] at h2
          simp at h2 h5
          omega
        walk_at "r"
        refine ⟨_, p, _, _, rfl, s56.trans (s7.trans s8), ep, ?_⟩
        rw [grow_more hns]
        exact (r6.same (s7.trans s8)).app (rD.same s8)
      · rintro σ H6 ⟨y4', fo, us, y6', rfl, s56, e6, r6⟩
        rw [r5.len, List.take_length] at r6
        have s06 := s02.trans (s25.trans s56)
        walk_at "r"
        refine Jv.r_dec (fun h3 => ?_) (fun h3 => ?_)
        · walk_at "r"
          exact ⟨fo, us, _, _, _, _, rfl, s06, e6, fun _ => r6⟩
        · walk_at "r"
          intro em hem
          exact ⟨em, [], _, _, _, _, rfl, s06.trans (Jv.same_new hem), upd_same, fun h => by omega⟩
  · rintro σ H2 ⟨lv, vs, y3, y4, y5, y6, rfl, s02, e2, r2⟩
    walk_at "r"
    exact q _ s02
theorem ok_Lfoe_rows (T : Tx) (O : Ok K mg T) : FnOk P w K mg base CX0 2 T.f_Lfoe_rows T.d_Lfoe_rows ["_law_ladder"] (sp_Lfoe_rows K) := by
  refine O.F_Lfoe_rows.ok sc_Lfoe_rows (fun vs H Q E h => by obtain ⟨_, rfl, _⟩ := h; rfl) (fun cdv A outer s H vs Q E hr h => ?_)
  obtain ⟨L, rfl, hL, q⟩ := h
  refine ⟨_, (pss_cons (ps_par (i := 1) (j := 2) rfl sc_Lfoe_rows.nd rfl rfl (by decide) rfl rfl (pa_cons (pe_lst (pa_cons (show PE _ _ (Jv.tTupF _) from Jv.pe_tupF pa_nil) pa_nil)) (pa_cons (pe_lst (pa_cons (show PE _ _ (Jv.tTupF _) from Jv.pe_tupF pa_nil) pa_nil)) pa_nil)) rfl)
  (pss_cons (ps_for PassesOwn.never rfl (pi_range1 (by rfl) O.z_range (pa_cons (pv 0) pa_nil)) (pg_name (i := 3) sc_Lfoe_rows.nd rfl (Or.inl rfl)) (pss_cons (ps_set (i := 4) sc_Lfoe_rows.nd rfl (Or.inl rfl) (pe_lst pa_nil))
  (pss_cons (ps_for PassesOwn.never rfl (show PI _ _ _ (iList K _) from pi_list (pv 2)) (pg_name (i := 5) sc_Lfoe_rows.nd rfl (Or.inr rfl)) (pss_one (ps_set (i := 4) sc_Lfoe_rows.nd rfl (Or.inl rfl) (pe_op op_cat (pv 4) (pe_lc (own := [("_law_word", 6)]) (by rfl) sc_Lfoe_rows.nd (show PI _ _ _ (iList K _) from pi_list (pe_call (ok_Lnexts T O) (hr.mono (by decide)) (by rfl) O.m_Lnexts O.F_Lnexts.kp O.b_Lnexts .nil pass0 (pa_cons (pv 0) (pa_cons (pv 5) pa_nil)))) (blkOk_by (own := [("_law_word", 6)]) (N := ["_law_ladder", "_law_found", "_law_level", "_law_turn_here", "_law_following", "_law_told", "_law_word"]) (sc := defScope s_Lfoe_rows) (scope := ({ kind := .function, names := [(".0", .local), ("_law_word", .local), ("_law_told", .free)], isGenerator := false, isCoroutine := false } : Scope)) (by decide +kernel)) (fun _ _ _ _ _ => (pg_name (i := 6) sc_Lfoe_rows.nd rfl (Or.inl rfl))) (fun _ _ _ _ _ => pts_nil) (fun _ _ _ _ _ => (pe_op (r := Jv.rCatF K) Jv.op_catF (pv 5) (show PE _ _ (Jv.tTupF _) from Jv.pe_tupF (pa_cons (pv 6) pa_nil)))))))))
  (pss_cons (ps_set (i := 2) sc_Lfoe_rows.nd rfl (Or.inl rfl) (pv 4))
  (pss_one (ps_set (i := 1) sc_Lfoe_rows.nd rfl (Or.inl rfl) (pe_op op_cat (pv 1) (pe_lc (own := [("_law_told", 5)]) (by rfl) sc_Lfoe_rows.nd (show PI _ _ _ (iList K _) from pi_list (pv 2)) (blkOk_by (own := [("_law_told", 5)]) (N := ["_law_ladder", "_law_found", "_law_level", "_law_turn_here", "_law_following", "_law_told", "_law_word"]) (sc := defScope s_Lfoe_rows) (scope := ({ kind := .function, names := [(".0", .local), ("_law_told", .local)], isGenerator := false, isCoroutine := false } : Scope)) (by decide +kernel)) (fun _ _ _ _ _ => (pg_name (i := 5) sc_Lfoe_rows.nd rfl (Or.inl rfl))) (fun _ _ _ _ _ => (pts_one (pt_cmpR op_gt (pe_ix (r := rIxT K) ix_tup (pv 5) (pe_un un_neg pe_int) (fun _ _ => rfl)) pe_int (nomark _)))) (fun _ _ _ _ _ => (pv 5))))))))))
  (pss_one (ps_ret (pv 1))))), ?_⟩
  walk_at "r"
  unfold tPar
  walk_at "r"
  refine ⟨by simp, fun t0 o0 ht0 hc0 hd0 => ?_⟩
  obtain ⟨s0, sq0, fz0⟩ := Jv.tupNew (K := K) (xs := []) ht0 hc0 hd0
  generalize L2.upd H t0 (.frz o0 (.tup [])) = H0 at s0 sq0 fz0
  walk_at "r"
  intro g0 hg0
  have s1 := Jv.same_new (u := .lst [V.ref t0]) hg0
  have e1 : upd H0 g0 (.lst [V.ref t0]) g0 = some (.lst [V.ref t0]) := upd_same
  generalize upd H0 g0 (.lst [V.ref t0]) = H1 at s1 e1
  have r1 : Jv.Rws K H1 [V.ref t0] [[]] := .cons (ns := []) (Jv.Same.sqT s1 sq0) (fun n => absurd rfl n) .nil
  have s01 := s0.trans s1
  clear s0 sq0 fz0 s1 hg0 ht0
  walk_at "r"
  refine ⟨by simp, fun t2 o2 ht2 hc2 hd2 => ?_⟩
  obtain ⟨s2, sq2, fz2⟩ := Jv.tupNew (K := K) (xs := []) ht2 hc2 hd2
  generalize L2.upd H1 t2 (.frz o2 (.tup [])) = H2 at s2 sq2 fz2
  walk_at "r"
  intro g2 hg2
  have s3 := Jv.same_new (u := .lst [V.ref t2]) hg2
  have e3 : upd H2 g2 (.lst [V.ref t2]) g2 = some (.lst [V.ref t2]) := upd_same
  generalize upd H2 g2 (.lst [V.ref t2]) = H3 at s3 e3
  have r3 : Jv.Rws K H3 [V.ref t2] [[]] := .cons (ns := []) (Jv.Same.sqT s3 sq2) (fun n => absurd rfl n) .nil
  have s13 := s2.trans s3
  have s03 := s01.trans s13
  have r1 := r1.same s13
  have e1 := s13 _ _ e1
  clear s2 sq2 fz2 s3 hg2 ht2
  walk_at "r"
  refine ⟨_, _, rfl, ?_⟩
  walk_at "r"
  refine ⟨_, rfl, by omega, by omega, for_range (lo := 0) (n := L.toNat) (fun j σ H' => ∃ fo vs lv us y3 y4 y5 y6, σ = [some (.int L), some (.ref fo), some (.ref lv), y3, y4, y5, y6] ∧ Same H H' ∧ H' fo = some (.lst vs) ∧ Jv.Rws K H' vs (outI L j) ∧ H' lv = some (.lst us) ∧ Jv.Rws K H' us (lvlI L j)) ⟨g0, _, g2, _, _, _, _, _, rfl, s03, e1, r1, e3, r3⟩ ?_ ?_⟩
  · rintro j σ H4 hj ⟨fo, vs, lv, us, y3, y4, y5, y6, rfl, s04, eV, rV, eU, rU⟩
    walk_at "r"
    intro g5 hg5
    have s45 := Jv.same_new (u := .lst []) hg5
    have e5 : upd H4 g5 (.lst []) g5 = some (.lst []) := upd_same
    generalize upd H4 g5 (.lst []) = H5 at s45 e5
    have rU5 := rU.same s45
    have eU5 := s45 _ _ eU
    walk_at "r"
    refine ⟨lv, rfl, ⟨_, Jv.sqL_at eU5⟩, for_it (walk_list (K := K) (a := lv) (xs := us)) (fun i σ H' => ∃ y5 fw ws y6, σ = [some (.int L), some (.ref fo), some (.ref lv), some (.int (0 + (j : Int))), some (.ref fw), y5, y6] ∧ Same H5 H' ∧ H' fw = some (.lst ws) ∧ Jv.Rws K H' ws (growI (fun r => nextsI L (Jv.topI r)) ((lvlI L j).take i))) ⟨_, g5, [], _, rfl, Same.refl _, e5, .nil⟩ (fun i σ H' _ ⟨_, _, _, _, _, s', _⟩ => s'.seq (Jv.sqL_at eU5)) ?_ ?_⟩
    · rintro i x σ H6 H6' hi ⟨y5', fw, ws, y6', rfl, s56, e6, r6⟩ ⟨rfl, hx⟩
      obtain ⟨a, ns, rfl, hns, sq, fz⟩ := (rU5.same s56).at hx
      obtain ⟨ln, bd⟩ := lvlI_mem hL.1 (List.mem_of_getElem? hns)
      walk_at "r"
      refine Jv.lcRL (K := K) (row := ns) (j := 6) (zs := nextsI L (Jv.topI ns)) ?_ (fun P hP => ?_) (fun z H7 s7 P hP => Jv.r_more (r := 5) (w := 6) rfl rfl (Jv.Same.sqT s7 sq) (by omega) hP) (fun D qs H7 s7 eD rD => ?_)
      · have := @Jv.topI_0 ns
        simp only [nextsI, List.length_cons, List.length_map, List.length_range]; omega
      · walk_at "r"
        refine ⟨L, .ref a, ns, rfl, by omega, ⟨a, rfl, .inr sq⟩, by omega, Int.le_trans (Jv.topI_le hL.1 fun n m => (bd n m).2) (by omega), fun r H7 s7 hr7 e7 => ?_⟩
        exact hP _ _ s7 e7
      refine Jv.r_cat (s7 _ _ e6) eD (Jv.small_of ?_) fun p H8 hp s8 ep => ?_
      · have h1 := r6.len
        have h2 := rD.len
        have h4 : (growI (fun r => nextsI L (Jv.topI r)) ((lvlI L j).take i)).length ≤ (lvlI L (j + 1)).length := grow_take
        have h5 := (lvl_len hL (n := j + 1) (by omega)).1
        rw [List.length_map] at h2
        have h6 : (nextsI L (Jv.topI ns)).length ≤ 7 := by
          have := @Jv.topI_0 ns
          simp only [nextsI, List.length_cons, List.length_map, List.length_range]; omega
        omega
      walk_at "r"
      refine ⟨_, p, _, _, rfl, s56.trans (s7.trans s8), ep, ?_⟩
      rw [grow_more hns]
      exact (r6.same (s7.trans s8)).app (rD.same s8)
    · rintro σ H6 ⟨y5', fw, ws, y6', rfl, s56, e6, r6⟩
      rw [rU5.len, List.take_length] at r6
      have r6 : Jv.Rws K H6 ws (lvlI L (j + 1)) := r6
      have s46 := s45.trans s56
      have rV6 := rV.same s46
      have eV6 := s46 _ _ eV
      have b1 := lvl_len hL (n := j + 1) (by omega)
      have b0 := lvl_len hL (n := j) (by omega)
      walk_at "r"
      refine Jv.lcRF (K := K) (i := 2) (j := 5) (cs := lvlI L (j + 1)) rfl e6 r6 callI (by omega) (fun b ns H7 m7 s7 sq7 R hR => ?_) (fun b H7 P hP => ?_) (fun D qs H7 s7 hD eD rD => ?_)
      · obtain ⟨ln, bd⟩ := lvlI_mem hL.1 m7
        obtain ⟨z, hz⟩ := last_at (k := 1) (ns := ns) (by omega) (by omega)
        rw [call_at hz] at hR
        walk_at "r"
        refine Jv.r_ixT sq7 (at_last (k := 1) (by omega) (by omega) hz) ?_
        walk_at "r"
        exact hR
      · walk_at "r"
        exact hP
      refine Jv.r_cat (s7 _ _ eV6) eD (Jv.small_of ?_) fun p H8 hp s8 ep => ?_
      · have h1 := rV6.len
        have h2 := rD.len
        have h3 : (outI L (j + 1)).length = (outI L j).length + ((lvlI L (j + 1)).filter callI).length := List.length_append
        omega
      walk_at "r"
      have s48 := s46.trans (s7.trans s8)
      refine ⟨p, _, fw, ws, _, _, _, _, rfl, s04.trans s48, ep, ?_, (s7.trans s8) _ _ e6, r6.same (s7.trans s8)⟩
      exact (rV.same s48).app (rD.same s8)
  · rintro σ H4 ⟨fo, vs, lv, us, y3, y4, y5, y6, rfl, s04, eV, rV, eU, rU⟩
    walk_at "r"
    exact q fo vs _ s04 eV rV
end
end K09

namespace Jv
open PySem PySem.Spec PyProof.Rows L2 GenW
theorem gfor_range {lo : Int} {n : Nat} {g : TG} {tb : TGn} {D : GEnds} {ys : List V} {σ : L2.St} {H : Hp} (Pv : Nat → List V → L2.St → Hp → Prop) (h0 : Pv 0 ys σ H)
    (hs : ∀ i ys σ H, i < n → Pv i ys σ H → g (.int (lo + i)) σ H fun σ2 H2 => tb { D with nx := Pv (i + 1), ct := Pv (i + 1), bk := D.nx } ys σ2 H2) (hd : ∀ ys σ H, Pv n ys σ H → D.nx ys σ H) :
    ∃ W : Nat → Nat → List V → L2.St → Hp → Prop, (∃ m, W 0 m ys σ H) ∧ ∀ i m ys σ H, W i m ys σ H →
      ((Itr lo n).stop i H ∧ D.nx ys σ H) ∨ ((Itr lo n).go i H ∧ ∃ N : List V → L2.St → Hp → Prop, (∀ ys' σ' H', N ys' σ' H' → ∃ m', m' < m ∧ W (i + 1) m' ys' σ' H') ∧ ∀ x H', (Itr lo n).yld i H x H' → g x σ H' fun σ2 H2 => tb { D with nx := N, ct := N, bk := D.nx } ys σ2 H2) := by
  refine ⟨fun i m ys σ H => m = n - i ∧ i ≤ n ∧ Pv i ys σ H, ⟨n, by simp, Nat.zero_le _, h0⟩, ?_⟩
  rintro i m ys σ H ⟨rfl, hi, p⟩
  by_cases hlt : i < n
  · refine .inr ⟨walk_range.goes i H hlt trivial, Pv (i + 1), fun ys' σ' H' p' => ⟨n - (i + 1), by omega, rfl, hlt, p'⟩, fun x H' y => ?_⟩
    obtain ⟨e, e2⟩ := walk_range.yields i H x H' hlt trivial y
    rw [e, e2]
    exact hs i ys σ H hlt p
  · have e : i = n := by omega
    subst e
    exact .inl ⟨walk_range.stops H trivial, hd ys σ H p⟩
theorem lc_any {J : It} {n : Nat} {G : Hp → Prop} {Y : Nat → Hp → V → Hp → Prop} (w : Walk J n G Y) {B : V → Hp → (Hp → Prop) → Prop} {Fin : Hp → Prop} {H0 : Hp} (Pv : Nat → Hp → Prop) (h0 : Pv 0 H0) (hG : ∀ i H, i ≤ n → Pv i H → G H)
    (hs : ∀ i x H H', i < n → Pv i H → Y i H x H' → B x H' (Pv (i + 1))) (hd : ∀ H, Pv n H → Fin H) : ∃ W : Nat → Nat → Hp → Prop, (∃ m, W 0 m H0) ∧ ∀ i m H, W i m H →
      (J.stop i H ∧ Fin H) ∨ (J.go i H ∧ ∃ Nx : Hp → Prop, (∀ H', Nx H' → ∃ m', m' < m ∧ W (i + 1) m' H') ∧ ∀ x H', J.yld i H x H' → B x H' Nx) := by
  refine ⟨fun i m H => m = n - i ∧ i ≤ n ∧ Pv i H, ⟨n, by simp, Nat.zero_le _, h0⟩, ?_⟩
  rintro i m H ⟨rfl, hi, p⟩
  have q := hG i H hi p
  by_cases lt : i < n
  · exact .inr ⟨w.goes i H lt q, Pv (i + 1), fun H' p' => ⟨n - (i + 1), by omega, rfl, lt, p'⟩, fun x H' y => hs i x H H' lt p (w.yields i H x H' lt q y)⟩
  · have e : i = n := by omega
    subst e
    exact .inl ⟨w.stops H q, hd H p⟩
theorem r_gName {i : Nat} {v : V} {σ : L2.St} {H : Hp} {Q : L2.St → Hp → Prop} (h : Q (σ.set i (some v)) H) : gName i v σ H Q := h
theorem r_at {D : GEnds} {ys : List V} {σ : L2.St} {H : Hp} (h : D.nx ys σ H) : (D.at ys).nx σ H := h
theorem g_from {te : TE} {D : GEnds} {ys : List V} {σ : L2.St} {H : Hp} (h : te σ H fun x H1 => ∃ a xs, x = .ref a ∧ H1 a = some (.lst xs) ∧ (ys.length + xs.length ≤ sizeLine ∧ D.nx (ys ++ xs) σ H1)) : tGThen (tGFrom (tYfLst te)) tG0 D ys σ H := h
end Jv
namespace K09
open PySem PySem.Spec PyProof.Rows L2 GenW
def sp_all_foe_words (K : PySem.W.Frag) : SpG := fun vs H Q _ => ∃ L, vs = [.int L] ∧ (0 ≤ L ∧ L ≤ 6) ∧ ∀ ys H', Same H H' → Jv.Rws K H' ys (outI L L.toNat) → Q ys H'
section
variable {P : Program} {w : World} {K : PySem.W.Frag} {mg : Str → Option Value} {base : Heap}
theorem gok_all_foe_words (T : Tx) (O : Ok K mg T) : GFn P w K mg base 2 T.f_all_foe_words T.d_all_foe_words ["ladder"] (sp_all_foe_words K) := by
  obtain ⟨oc, od, kV, doc, pm, an, cdv, ct, osl, e, lk, hcd⟩ := O.F_all_foe_words.ex
  rw [e] at lk ⊢
  refine gfn_of lk hcd sc_all_foe_words (fun vs H Q E h => by obtain ⟨_, rfl, _⟩ := h; rfl) (fun A outer s H vs Q E pn hr h => ?_)
  obtain ⟨L, rfl, hL, q⟩ := h
  refine ⟨_, gss_cons (gs_yield (show PE _ _ (Jv.tTupF _) from Jv.pe_tupF pa_nil)) (gss_cons (gs_ps (ps_set (i := 1) sc_all_foe_words.nd rfl (Or.inl rfl) (pe_lst (pa_cons (show PE _ _ (Jv.tTupF _) from Jv.pe_tupF pa_nil) pa_nil))))
    (gss_cons (Jv.gs_for owns_gcx rfl (pi_range1 (by rfl) O.z_range (pa_cons (pv 0) pa_nil)) (pg_name (i := 2) sc_all_foe_words.nd rfl (Or.inl rfl))
      (gss_cons (gs_ps (ps_setLc2 (i := 1) (own := [("row", 3), ("word", 4)]) (vs1 := [4]) (by rfl) sc_all_foe_words.nd rfl rfl (sw_true rfl rfl rfl (by decide +kernel)) (show PI _ _ _ (iList K _) from pi_list (pv 1)) (blkOk_by (own := [("row", 3), ("word", 4)]) (N := ["ladder", "rows", "_", "row", "word"]) (sc := defScope s_all_foe_words) (by decide +kernel)) (by decide) (fun _ _ _ _ _ => (pg_name (i := 3) sc_all_foe_words.nd rfl (Or.inl rfl))) (fun _ _ _ _ _ => pts_nil) (fun _ _ _ _ _ => (show PI _ _ _ (iTup K _) from pi_tup (pe_call (ok_next_words T O) (hr.mono (by decide)) (by rfl) O.m_next_words O.F_next_words.kp O.b_next_words .nil pass0 (pa_cons (pv 0) (pa_cons (pe_call (ok_standing_at T O) (hr.mono (by decide)) (by rfl) O.m_standing_at O.F_standing_at.kp O.b_standing_at .nil pass0 (pa_cons (pv 3) pa_nil)) pa_nil))))) (fun _ _ _ _ _ => (pg_name (i := 4) sc_all_foe_words.nd rfl (Or.inl rfl))) (fun _ _ _ _ _ => pts_nil) (fun _ _ _ _ _ => (pe_op (r := Jv.rCatF K) Jv.op_catF (pv 3) (show PE _ _ (Jv.tTupF _) from Jv.pe_tupF (pa_cons (pv 4) pa_nil))))))
      (gss_cons (gs_yieldFrom (Jv.yf_lst (pe_lc (own := [("row", 3)]) (by rfl) sc_all_foe_words.nd (show PI _ _ _ (iList K _) from pi_list (pv 1)) (blkOk_by (own := [("row", 3)]) (N := ["ladder", "rows", "_", "row", "word"]) (sc := defScope s_all_foe_words) (scope := ({ kind := .function, names := [(".0", .local), ("row", .local), ("STOP", .globalImplicit)], isGenerator := false, isCoroutine := false } : Scope)) (by decide +kernel)) (fun _ _ _ _ _ => (pg_name (i := 3) sc_all_foe_words.nd rfl (Or.inl rfl))) (fun _ _ _ _ _ => (pts_one (pt_cmpR op_ne (pe_ix (r := rIxT K) ix_tup (pv 3) (pe_un un_neg pe_int) (fun _ _ => rfl)) (pe_glob (v := .int (0)) (by rfl) O.c_STOP ⟨_, rfl⟩) (nomark _)))) (fun _ _ _ _ _ => (pv 3)))) hr.hd) gss_nil))) gss_nil)), ?_⟩
  refine ⟨Jv.small_lt (by simp), Jv.small_of (by simp), fun t0 o0 ht0 hc0 hd0 => ?_⟩
  obtain ⟨s0, sq0, fz0⟩ := Jv.tupNew (K := K) (xs := []) ht0 hc0 hd0
  generalize L2.upd H t0 (.frz o0 (.tup [])) = H0 at s0 sq0 fz0
  have r0 : Jv.Rws K H0 [V.ref t0] [[]] := .cons (ns := []) sq0 (fun n => absurd rfl n) .nil
  refine ⟨Jv.small_of (by simp), fun t2 o2 ht2 hc2 hd2 => ⟨Jv.small_of (by simp), fun g2 hg2 => ?_⟩⟩
  obtain ⟨s2, sq2, fz2⟩ := Jv.tupNew (K := K) (xs := []) ht2 hc2 hd2
  generalize L2.upd H0 t2 (.frz o2 (.tup [])) = H2 at s2 sq2 fz2 hg2
  have s3 := Jv.same_new (u := .lst [V.ref t2]) hg2
  have e3 : upd H2 g2 (.lst [V.ref t2]) g2 = some (.lst [V.ref t2]) := upd_same
  generalize upd H2 g2 (.lst [V.ref t2]) = H3 at s3 e3
  have r3 : Jv.Rws K H3 [V.ref t2] [[]] := .cons (ns := []) (Jv.Same.sqT s3 sq2) (fun n => absurd rfl n) .nil
  have s03 := s0.trans (s2.trans s3)
  have r1 := r0.same (s2.trans s3)
  clear s2 sq2 fz2 s3 hg2 ht2 r0 s0 sq0 fz0 ht0
  refine ⟨.int L, rfl, L, rfl, by omega, by omega, Jv.gfor_range (lo := 0) (n := L.toNat) (fun j ys σ H' => ∃ rv us y2 y3 y4, σ = [some (.int L), some (.ref rv), y2, y3, y4] ∧ Same H H' ∧ Jv.Rws K H' ys (outI L j) ∧ H' rv = some (.lst us) ∧ Jv.Rws K H' us (lvlI L j)) ⟨g2, _, _, _, _, rfl, s03, r1, e3, r3⟩ ?_ ?_⟩
  · rintro j ys σ H4 hj ⟨rv, us, y2, y3, y4, rfl, s04, rV, eU, rU⟩
    have b1 := lvl_len hL (n := j + 1) (by omega)
    have b0 := lvl_len hL (n := j) (by omega)
    refine ⟨_, rfl, rv, rfl, ⟨_, Jv.sqL_at eU⟩, fun D hD => ?_⟩
    refine Jv.lc_any (walk_list (K := K) (a := rv) (xs := us)) (fun i H5 => Same H4 H5 ∧ ∃ ws, H5 D = some (.lst ws) ∧ Jv.Rws K H5 ws (growI (fun r => nextsI L (Jv.topI r)) ((lvlI L j).take i))) ⟨Jv.same_new hD, [], upd_same, .nil⟩ (fun i H5 _ h => h.1.seq (Jv.sqL_at eU)) ?_ ?_
    · rintro i x H5 H6 hi ⟨s45, ws, eD, rD⟩ ⟨rfl, hx⟩
      obtain ⟨a, ns, rfl, hns, sq, fz⟩ := (rU.same s45).at hx
      obtain ⟨ln, bd⟩ := lvlI_mem hL.1 (List.mem_of_getElem? hns)
      refine ⟨rfl, Jv.r_yes (Jv.r_ift ?_)⟩
      refine Jv.r_iT ?_
      walk_at "r"
      refine ⟨.ref a, ns, rfl, ⟨a, rfl, .inr sq⟩, fun n m => (bd n m).1, ?_⟩
      refine ⟨L, Jv.topI ns, rfl, by omega, ⟨Jv.topI_0, Int.le_trans (Jv.topI_le hL.1 fun n m => (bd n m).2) (by omega)⟩, fun t H7 s7 sqt => ?_⟩
      refine ⟨t, rfl, ⟨_, sqt⟩, ?_⟩
      have h4 : (growI (fun r => nextsI L (Jv.topI r)) ((lvlI L j).take i)).length ≤ (lvlI L (j + 1)).length := grow_take
      have h6 : (nextsI L (Jv.topI ns)).length ≤ 7 := by
        have := @Jv.topI_0 ns
        simp only [nextsI, List.length_cons, List.length_map, List.length_range]; omega
      refine Jv.lc_any (walk_tup (K := K) (a := t) (xs := (nextsI L (Jv.topI ns)).map V.int)) (fun k H8 => Same H4 H8 ∧ SqT K H8 t ((nextsI L (Jv.topI ns)).map V.int) ∧ ∃ qs, H8 D = some (.lst qs) ∧ Jv.Rws K H8 qs (growI (fun r => nextsI L (Jv.topI r)) ((lvlI L j).take i) ++ ((nextsI L (Jv.topI ns)).take k).map fun z => ns ++ [z])) ⟨s45.trans s7, sqt, ws, s7 _ _ eD, by simpa using rD.same s7⟩ (fun k H8 _ h => h.2.1) ?_ ?_
      · rintro k x H8 H9 hk ⟨s48, st8, qs, e8, r8⟩ ⟨rfl, hz⟩
        obtain ⟨z, hz2, rfl⟩ := Jv.map_at hz
        obtain ⟨a', ns', ea, hns', sq8, _⟩ := (rU.same s48).at hx
        rw [hns] at hns'
        cases ea; cases hns'
        refine ⟨rfl, Jv.r_yes (Jv.r_ift ?_)⟩
        refine Jv.r_more (K := K) (r := 3) (w := 4) (ns := ns) rfl rfl sq8 (by omega) fun t2 H10 s10 sq10 fz10 => ⟨qs, s10 _ _ e8, Jv.small_lt ?_, fun b o e => Jv.kpO (s10 _ _ (s48 b o e)) (ne_of_none e hD), Jv.SqT.lstU (s10 _ _ e8) (Jv.Same.sqT s10 st8), qs ++ [.ref t2], upd_same, ?_⟩
        · have h1 := r8.len
          have h2 : (((nextsI L (Jv.topI ns)).take k).map fun z => ns ++ [z]).length ≤ 7 := by rw [List.length_map, List.length_take]; omega
          rw [List.length_append] at h1
          omega
        · rw [Jv.take_moreG hz2, List.map_append, ← List.append_assoc]
          exact Jv.Rws.lstU (s10 _ _ e8) ((r8.same s10).app (.cons sq10 (fun _ => fz10) .nil))
      · rintro H8 ⟨s48, st8, qs, e8, r8⟩
        refine ⟨s48, qs, e8, ?_⟩
        rw [List.length_map, List.take_length] at r8
        rw [grow_more hns]
        exact r8
    · rintro H5 ⟨s45, ws, eD, rD⟩
      rw [rU.len, List.take_length] at rD
      have rD : Jv.Rws K H5 ws (lvlI L (j + 1)) := rD
      refine Jv.r_gName (Jv.r_at ?_)
      dsimp only
      refine Jv.g_from ?_
      refine Jv.lcRF (K := K) (i := 1) (j := 3) (cs := lvlI L (j + 1)) (by rfl) eD rD callI (by omega) (fun b ns H7 m7 s7 sq7 R hR => ?_) (fun b H7 P hP => ?_) (fun D2 qs H7 s7 hD eD2 rD2 => ?_)
      · obtain ⟨ln, bd⟩ := lvlI_mem hL.1 m7
        obtain ⟨z, hz⟩ := last_at (k := 1) (ns := ns) (by omega) (by omega)
        have z0 := (bd z (List.mem_of_getElem? hz)).1
        have e : callI ns = !decide (z = 0) := by
          rw [call_at hz]
          by_cases h : z = 0
          · simp [h]
          · simp [h]; omega
        rw [e] at hR
        walk_at "r"
        refine Jv.r_ixT sq7 (at_last (k := 1) (by omega) (by omega) hz) ?_
        walk_at "r"
        rw [Jv.decI]
        exact hR
      · walk_at "r"
        exact hP
      · have h1 := (rV.same (s45.trans s7)).len
        have h2 := rD2.len
        have h3 : (outI L (j + 1)).length = (outI L j).length + ((lvlI L (j + 1)).filter callI).length := List.length_append
        refine ⟨D2, qs, rfl, eD2, Jv.small_of (by omega), D, ws, _, _, _, rfl, s04.trans (s45.trans s7), ?_, s7 _ _ eD, rD.same s7⟩
        exact (rV.same (s45.trans s7)).app rD2
  · rintro ys σ H4 ⟨rv, us, y2, y3, y4, rfl, s04, rV, eU, rU⟩
    exact q ys _ s04 rV
end
end K09

namespace Jv
open PySem PySem.Spec PyProof.Rows L2
theorem tLc_inl {wi wj : TI} {g : TG} {tt : TT} {te : TE} {vs : List Nat} {σ : L2.St} {H : Hp} {Q : VK} (h : tLc wi g tt te vs σ H Q) : tLc (fun σ H R => wi σ H R ∨ wj σ H R) g tt te vs σ H Q := .inl h
end Jv
namespace K09
open PySem PySem.Spec PyProof.Rows L2
/-! ### the law -/
def sp_law (K : PySem.W.Frag) : Sp := fun vs H Q _ => ∃ (a : Addr) (ns : List Int), vs = [.ref a] ∧ SqL K H a (ns.map V.int) ∧ ns.length ≤ 63 ∧ ∀ H', Q (.bl true) H'
theorem shaped_rows (cs : List (List Int)) : SeqAt.shaped (.list (cs.map fun ns => .tuple (ns.map .int))) = true := by
  have h1 : PyData.canLayAll0 (cs.map fun ns => PyData.tuple (ns.map .int)) = true := canAll_of fun d m => by
    obtain ⟨ns, _, rfl⟩ := List.mem_map.mp m
    exact SeqAt.canLay_of_shaped (Jv.shapedT ns)
  have h2 : PyData.depthAll (cs.map fun ns => PyData.tuple (ns.map .int)) ≤ 1 := depAll_of fun d m => by
    obtain ⟨ns, _, rfl⟩ := List.mem_map.mp m
    simp [PyData.depth, Jv.depAll_ints]
  unfold SeqAt.shaped
  rw [show PyData.canLay0 (.list (cs.map fun ns => .tuple (ns.map .int))) = true by simp only [PyData.canLay0]; exact h1, decide_eq_true (by simp only [PyData.depth]; omega)]
  rfl
section
variable {P : Program} {w : World} {K : PySem.W.Frag} {mg : Str → Option Value} {base : Heap}
theorem ok_law (T : Tx) (O : Ok K mg T) : Jv.FnG P w K mg base CX0 8 T.f_law T.d_law ["_law_script"] (sp_law K) := by
  refine Jv.fun_okG O.F_law sc_law (fun vs H Q E h => by obtain ⟨_, _, rfl, _⟩ := h; rfl) (fun cdv A outer s H vs Q E gd0 hr h => ?_)
  have gd := Jv.gd_body (CX := CX0) (P := P) (w := w) (K := K) (mg := mg) (base := base) (N := ["_law_script", "_law_hand_here", "_law_turn_here", "_law_ladder", "_law_foes", "_law_row_here", "_law_thing", "_law_told", "_law_one"]) (qual := "law") (scope := defScope s_law) (f := T.f_law) (cd := cdv) (outer := outer) (s := s) (H := H) (E := E) gd0
  obtain ⟨sc, ns, rfl, hS, few, k⟩ := h
  refine ⟨_, (pss_cons (ps_set (i := 1) sc_law.nd rfl (Or.inl rfl) (pe_call (ok_Lhand T O) (hr.mono (by decide)) (by rfl) O.m_Lhand O.F_Lhand.kp O.b_Lhand .nil pass0 (pa_cons (pv 0) pa_nil)))
  (pss_cons (ps_if (pt_not (pt_val (Jv.pe_callG (ok_Lsmall T O) gd (hr.mono (by decide)) (by rfl) O.m_Lsmall O.F_Lsmall.kp O.b_Lsmall .nil pass0 (pa_cons (pe_call (ok_Ldraw T O) (hr.mono (by decide)) (by rfl) O.m_Ldraw O.F_Ldraw.kp O.b_Ldraw .nil pass0 (pa_cons (pv 1) (pa_cons pe_int pa_nil))) (pa_cons (pe_cmpR op_eq (pe_call (ok_Ldraw T O) (hr.mono (by decide)) (by rfl) O.m_Ldraw O.F_Ldraw.kp O.b_Ldraw .nil pass0 (pa_cons (pv 1) (pa_cons pe_int pa_nil))) pe_int (nomark _)) pa_nil))))) (pss_one (ps_ret pe_bl)) pss_nil)
  (pss_cons (ps_for PassesOwn.never rfl (pi_range1 (by rfl) O.z_range (pa_cons pe_int pa_nil)) (pg_name (i := 2) sc_law.nd rfl (Or.inl rfl)) (pss_cons (ps_set (i := 3) sc_law.nd rfl (Or.inl rfl) (pe_call (ok_Ldraw T O) (hr.mono (by decide)) (by rfl) O.m_Ldraw O.F_Ldraw.kp O.b_Ldraw .nil pass0 (pa_cons (pv 1) (pa_cons pe_int pa_nil))))
  (pss_cons (ps_set (i := 4) sc_law.nd rfl (Or.inl rfl) (pe_cmpR op_eq (pe_call (ok_Ldraw T O) (hr.mono (by decide)) (by rfl) O.m_Ldraw O.F_Ldraw.kp O.b_Ldraw .nil pass0 (pa_cons (pv 1) (pa_cons pe_int pa_nil))) pe_int (nomark _)))
  (pss_cons (ps_set (i := 5) sc_law.nd rfl (Or.inl rfl) (pe_call (ok_Lrow T O) (hr.mono (by decide)) (by rfl) O.m_Lrow O.F_Lrow.kp O.b_Lrow .nil pass0 (pa_cons (pv 1) (pa_cons (pv 3) (pa_cons (pv 4) pa_nil)))))
  (pss_cons (ps_for PassesOwn.never rfl (show PI _ _ _ (iList K _) from pi_list (pe_lst (pa_cons (pv 5) (pa_cons (pe_callTy (r := Jv.rListOf K) call_list_of (by rfl) O.z_list (by decide +kernel) (pa_cons (pv 5) pa_nil)) (pa_cons (pe_call (ok_Lspoilt T O) (hr.mono (by decide)) (by rfl) O.m_Lspoilt O.F_Lspoilt.kp O.b_Lspoilt .nil pass0 (pa_cons (pv 1) (pa_cons (pv 5) (pa_cons (pv 3) pa_nil)))) (pa_cons (pe_op op_cat (pe_callTy (r := Jv.rListOf K) call_list_of (by rfl) O.z_list (by decide +kernel) (pa_cons (pv 5) pa_nil)) (pe_lst (pa_cons pe_int pa_nil))) (pa_cons (pe_op op_cat (pe_callTy (r := Jv.rListOf K) call_list_of (by rfl) O.z_list (by decide +kernel) (pa_cons (pv 5) pa_nil)) (pe_lst (pa_cons pe_int (pa_cons pe_int pa_nil)))) (pa_cons (pe_callTy (r := Jv.rListOf K) call_list_of (by rfl) O.z_list (by decide +kernel) (pa_cons (show PE _ _ (Jv.tRevT K _) from Jv.pe_revT (pv 5)) pa_nil)) pa_nil)))))))) (pg_name (i := 6) sc_law.nd rfl (Or.inl rfl)) (pss_one (ps_if (pt_not (pt_val (Jv.pe_callG (ok_Lasked T O) gd (hr.mono (by decide)) (by rfl) O.m_Lasked O.F_Lasked.kp O.b_Lasked .nil pass0 (pa_cons (pv 6) (pa_cons (pv 3) (pa_cons (pv 4) pa_nil)))))) (pss_one (ps_ret pe_bl)) pss_nil)))
  (pss_cons (ps_set (i := 7) sc_law.nd rfl (Or.inl rfl) (pe_call (ok_next_words T O) (hr.mono (by decide)) (by rfl) O.m_next_words O.F_next_words.kp O.b_next_words .nil pass0 (pa_cons (pv 3) (pa_cons (pe_callB (r := rMax K) (cr_max rfl) (by rfl) O.z_max (by decide +kernel) (pa_cons (pe_op op_cat (pe_lst (pa_cons pe_int pa_nil)) (pe_callTy (r := Jv.rListOf K) call_list_of (by rfl) O.z_list (by decide +kernel) (pa_cons (pv 5) pa_nil))) pa_nil)) pa_nil))))
  (pss_one (ps_if (PW.pt (pw_or (pt_not (pt_val (pe_callB (r := rIsi K) call_isi (by rfl) O.z_isinstance (by decide +kernel) (pa_cons (pv 7) (pa_cons (pe_bltn (v := .ty "tuple") (by rfl) O.z_tuple (by decide +kernel) rfl) pa_nil))))) (pw_or1 (pt_cmpR (r := rNeD K) (op_neD hr.units) (pe_callTy (r := Jv.rListOf K) call_list_of (by rfl) O.z_list (by decide +kernel) (pa_cons (pv 7) pa_nil)) (pe_call (ok_Lnexts T O) (hr.mono (by decide)) (by rfl) O.m_Lnexts O.F_Lnexts.kp O.b_Lnexts .nil pass0 (pa_cons (pv 3) (pa_cons (pv 5) pa_nil))) (nomark _))))) (pss_one (ps_ret pe_bl)) pss_nil))))))))
  (pss_cons (ps_set (i := 3) sc_law.nd rfl (Or.inl rfl) (pe_call (ok_Ldraw T O) (hr.mono (by decide)) (by rfl) O.m_Ldraw O.F_Ldraw.kp O.b_Ldraw .nil pass0 (pa_cons (pv 1) (pa_cons pe_int pa_nil))))
  (pss_cons (ps_set (i := 7) sc_law.nd rfl (Or.inl rfl) (pe_listG (E := E0) (pgen_call (gok_all_foe_words T O) (hr.mono (by decide)) (by rfl) O.m_all_foe_words O.F_all_foe_words.kp O.b_all_foe_words .nil (pa_cons (pv 3) pa_nil)) passL (fun _ _ _ h => h.elim) (hr.mono (by decide)) (by rfl) O.z_list (by decide +kernel)))
  (pss_one (ps_ret (pe_and (pe_cmpR (r := rEqD K) (op_eqD hr.units) (pv 7) (pe_call (ok_Lfoe_rows T O) (hr.mono (by decide)) (by rfl) O.m_Lfoe_rows O.F_Lfoe_rows.kp O.b_Lfoe_rows .nil pass0 (pa_cons (pv 3) pa_nil)) (nomark _)) (pe_one (pe_cmpR (r := rEqD K) (op_eqD hr.units) (pe_lc (own := [("_law_one", 8)]) (by rfl) sc_law.nd (Jv.piOr (show PI _ _ _ (iList K _) from pi_list (pv 7)) (show PI _ _ _ (iTup K _) from pi_tup (pv 7))) (blkOk_by (own := [("_law_one", 8)]) (N := ["_law_script", "_law_hand_here", "_law_turn_here", "_law_ladder", "_law_foes", "_law_row_here", "_law_thing", "_law_told", "_law_one"]) (sc := defScope s_law) (scope := ({ kind := .function, names := [(".0", .local), ("_law_one", .local), ("isinstance", .globalImplicit), ("tuple", .globalImplicit)], isGenerator := false, isCoroutine := false } : Scope)) (by decide +kernel)) (fun _ _ _ _ _ => (pg_name (i := 8) sc_law.nd rfl (Or.inl rfl))) (fun _ _ _ _ _ => (pts_one (pt_not (pt_val (pe_callB (r := rIsi K) call_isi (by rfl) O.z_isinstance (by decide +kernel) (pa_cons (pv 8) (pa_cons (pe_bltn (v := .ty "tuple") (by rfl) O.z_tuple (by decide +kernel) rfl) pa_nil))))))) (fun _ _ _ _ _ => (pv 8))) (pe_lst pa_nil) (nomark _))))))))))), ?_⟩
  walk_at "r"
  refine ⟨sc, ns, rfl, hS, few, fun h hl H0 s0 nh hh0 => ?_⟩
  walk_at "r"
  refine ⟨h, hl, 3, rfl, hh0, ⟨by decide, Jv.log_small (by decide) (by decide)⟩, fun r1 H1 a0 a1 kp1 hh1 => ?_⟩
  walk_at "r"
  refine ⟨h, hl, 2, rfl, hh1, ⟨by decide, Jv.log_small (by decide) (by decide)⟩, fun r2 H2 b0 b1 kp2 hh2 => ?_⟩
  walk_at "r"
  refine ⟨r1, _, rfl, by omega, fun H3 s3 => ?_⟩
  walk_at "r"
  have hh3 := hh2.same s3
  clear hh0 s0 nh hS few kp1 hh1 kp2 hh2 s3
  refine ⟨8, rfl, by decide, by decide, ?_⟩
  refine for_range (lo := 0) (n := 8) (fun i σ H' => ∃ y2 y3 y4 y5 y6 y7 y8, σ = [some (.ref sc), some (.ref h), y2, y3, y4, y5, y6, y7, y8] ∧ Jv.Hand H' h hl) ⟨_, _, _, _, _, _, _, rfl, hh3⟩ ?_ ?_
  · clear hh3 H3 H2 H1 H0
    rintro i σ H1 hi ⟨y2, y3, y4, y5, y6, y7, y8, rfl, hh1⟩
    walk_at "r"
    refine ⟨h, hl, 7, rfl, hh1, ⟨by decide, Jv.log_small (by decide) (by decide)⟩, fun L H2 l0 l1 kp2 hh2 => ?_⟩
    walk_at "r"
    refine ⟨h, hl, 2, rfl, hh2, ⟨by decide, Jv.log_small (by decide) (by decide)⟩, fun rf H3 f0 f1 kp3 hh3 => ?_⟩
    walk_at "r"
    generalize decide (V.int rf = V.int 1) = f
    clear hh1 kp2 kp3 hh2
    refine ⟨h, hl, L, f, rfl, hh3, by omega, fun a ms H4 kp4 hh4 row => ?_⟩
    clear hh3 kp4
    have skr : Jv.Sk K H4 (.ref a) (ms.map V.int) := ⟨a, rfl, .inr row.sq⟩
    have hL : 0 ≤ L ∧ L ≤ 6 := by omega
    have bd : ∀ n ∈ ms, 0 ≤ n ∧ n ≤ 100 := fun n m => by have := row.bd n m; omega
    have ln := row.ln
    walk_at "r"
    refine skr.list fun l2 G1 hl2 z1 el2 => ?_
    have nl2 := (Jv.Hand.ne2 hh4 hl2).1
    have hhG1 := hh4.same z1
    walk_at "r"
    refine ⟨h, hl, a, L, ms, rfl, hhG1, hL, row.same z1, fun v d G2 kpG hh5 th => ?_⟩
    have row5 := (row.same z1).kp hhG1 kpG
    have el5 := kpG l2 _ nl2 el2
    have skr5 : Jv.Sk K G2 (.ref a) (ms.map V.int) := ⟨a, rfl, .inr row5.sq⟩
    clear row skr z1 hhG1 kpG el2 hl2 hh4 nl2
    walk_at "r"
    refine skr5.list fun l3 G3 hl3 z3 el3 => ?_
    walk_at "r"
    intro g0 hg0
    have z4 := Jv.same_new (u := .lst [V.int 0]) hg0
    have e0 : upd G3 g0 (.lst [V.int 0]) g0 = some (.lst [V.int 0]) := upd_same
    generalize upd G3 g0 (.lst [V.int 0]) = G4 at z4 e0
    refine Jv.r_cat (z4 _ _ el3) e0 (Jv.small_of (by simp; omega)) fun p4 G5 hp4 z5 e4 => ?_
    have z25 := z3.trans (z4.trans z5)
    have e4 : G5 p4 = some (.lst ((ms ++ [0]).map V.int)) := by rw [List.map_append]; exact e4
    clear el3 e0 hl3 z3 z4 z5 hp4 hg0
    walk_at "r"
    refine (skr5.same z25).list fun l5 G6 hl5 z6 el6 => ?_
    walk_at "r"
    intro g1 hg1
    have z7 := Jv.same_new (u := .lst [V.int 0, V.int 0]) hg1
    have e1 : upd G6 g1 (.lst [V.int 0, V.int 0]) g1 = some (.lst [V.int 0, V.int 0]) := upd_same
    generalize upd G6 g1 (.lst [V.int 0, V.int 0]) = G7 at z7 e1
    refine Jv.r_cat (z7 _ _ el6) e1 (Jv.small_of (by simp; omega)) fun p8 G8 hp8 z8 e8 => ?_
    have z58 := z6.trans (z7.trans z8)
    have e8 : G8 p8 = some (.lst ((ms ++ [0, 0]).map V.int)) := by rw [List.map_append]; exact e8
    clear el6 e1 hl5 z6 z7 z8 hp8 hg1
    walk_at "r"
    refine ⟨_, rfl, a, _, rfl, Jv.Same.sqT (z25.trans z58) row5.sq, fun rv hrv => ?_⟩
    have z9 := Jv.same_new (u := .tup (ms.map V.int).reverse) hrv
    have sk9 : Jv.Sk K (upd G8 rv (.tup (ms.map V.int).reverse)) (.ref rv) ((ms.reverse).map V.int) := ⟨rv, rfl, .inr (Jv.sqT_at (by rw [upd_same, List.map_reverse]))⟩
    generalize upd G8 rv (.tup (ms.map V.int).reverse) = G9 at z9 sk9
    walk_at "r"
    refine sk9.list fun l10 G10 hl10 z10 el10 => ?_
    walk_at "r"
    intro gg hgg
    have z11 := Jv.same_new (u := .lst [V.ref a, V.ref l2, v, V.ref p4, V.ref p8, V.ref l10]) hgg
    have eg : upd G10 gg (.lst [V.ref a, V.ref l2, v, V.ref p4, V.ref p8, V.ref l10]) gg = some (.lst [V.ref a, V.ref l2, v, V.ref p4, V.ref p8, V.ref l10]) := upd_same
    generalize upd G10 gg (.lst [V.ref a, V.ref l2, v, V.ref p4, V.ref p8, V.ref l10]) = G11 at z11 eg
    have z811 := z9.trans (z10.trans z11)
    have z511 := z58.trans z811
    have z211 := z25.trans z511
    have things : ∀ (i : Nat) x, [V.ref a, V.ref l2, v, V.ref p4, V.ref p8, V.ref l10][i]? = some x → ∃ d, Thing K G11 x d := fun i x hx => by
      match i, hx with
      | 0, hx => cases hx; exact ⟨_, thing_tup (row5.same z211).sq (row5.same z211).fz (by omega) bd⟩
      | 1, hx => cases hx; exact ⟨_, thing_lst (z211 _ _ el5) (by omega) bd⟩
      | 2, hx => cases hx; exact ⟨d, th.same z211⟩
      | 3, hx =>
        cases hx
        refine ⟨_, thing_lst (z511 _ _ e4) (by simp; omega) fun n m => ?_⟩
        rcases List.mem_append.mp m with m | m
        · exact bd n m
        · rw [List.mem_singleton.mp m]; omega
      | 4, hx =>
        cases hx
        refine ⟨_, thing_lst (z811 _ _ e8) (by simp; omega) fun n m => ?_⟩
        rcases List.mem_append.mp m with m | m
        · exact bd n m
        · simp only [List.mem_cons, List.not_mem_nil, or_false, or_self] at m
          omega
      | 5, hx => cases hx; exact ⟨_, thing_lst (z11 _ _ el10) (by rw [List.length_reverse]; omega) fun n m => bd n (List.mem_reverse.mp m)⟩
      | n + 6, hx => simp at hx
    have row11 := row5.same z211
    have hh11 := hh5.same z211
    clear row5 el5 skr5 e4 e8 sk9 el10 z9 z10 z11 z811 z511 z211 z25 z58 th hh5 hgg hl10 hrv
    walk_at "r"
    refine ⟨gg, rfl, ⟨_, Jv.sqL_at eg⟩, for_it (walk_list (K := K) (a := gg) (xs := [V.ref a, V.ref l2, v, V.ref p4, V.ref p8, V.ref l10])) (fun j σ H' => ∃ y6, σ = [some (.ref sc), some (.ref h), some (.int (0 + (i : Int))), some (.int L), some (.bl f), some (.ref a), y6, y7, y8] ∧ Same G11 H') ⟨_, rfl, Same.refl _⟩ (fun j σ H' _ ⟨_, _, s'⟩ => s'.seq (Jv.sqL_at eg)) ?_ ?_⟩
    · rintro j x σ H5 H5' hj ⟨y6', rfl, s5⟩ ⟨rfl, hx⟩
      obtain ⟨d', th'⟩ := things j x hx
      walk_at "r"
      refine ⟨x, d', L, f, rfl, by omega, th'.same s5, fun H6 s6 => ?_⟩
      walk_at "r"
      exact ⟨_, rfl, s5.trans s6⟩
    · rintro σ H5 ⟨y6', rfl, s5⟩
      have row6 := row11.same s5
      have hh6 := hh11.same s5
      have sk6 : Jv.Sk K H5 (.ref a) (ms.map V.int) := ⟨a, rfl, .inr row6.sq⟩
      clear things eg row11 hh11 s5
      have top1 : Jv.topI ms ≤ 100 := Jv.topI_le (by omega) fun n m => (bd n m).2
      walk_at "r"
      intro t0 h0
      have s6 := Jv.same_new (u := .lst [V.int 0]) h0
      have e0 : upd H5 t0 (.lst [V.int 0]) t0 = some (.lst [V.int 0]) := upd_same
      generalize upd H5 t0 (.lst [V.int 0]) = H6 at s6 e0
      walk_at "r"
      refine (sk6.same s6).list fun l7 H7 hl7 s7 el7 => ?_
      refine Jv.r_cat (s7 _ _ e0) el7 (Jv.small_of (by simp; omega)) fun p8 H8 hp8 s8 e8 => ?_
      walk_at "r"
      refine Jv.maxL e8 ?_
      walk_at "r"
      refine ⟨L, Jv.topI ms, rfl, by omega, ⟨Jv.topI_0, top1⟩, fun t H9 s9 sq9 => ?_⟩
      have s59 := s6.trans (s7.trans (s8.trans s9))
      walk_at "r"
      refine Jv.d_isT (Jv.tupI sq9) ?_
      walk_at "r"
      refine Jv.Sk.list ⟨t, rfl, .inr sq9⟩ fun l10 H10 hl10 s10 el10 => ?_
      walk_at "r"
      refine ⟨L, .ref a, ms, rfl, by omega, sk6.same (s59.trans s10), by omega, top1, fun r11 H11 s11 hr11 e11 => ?_⟩
      refine Jv.ne_self (Jv.lstI (s11 _ _ el10)) (Jv.lstI e11) (Jv.shapedL _) ?_
      walk_at "r"
      exact ⟨_, _, _, _, _, _, _, rfl, hh6.same (s59.trans (s10.trans s11))⟩
  · rintro σ H1 ⟨y2, y3, y4, y5, y6, y7, y8, rfl, hh1⟩
    walk_at "r"
    refine ⟨h, hl, 7, rfl, hh1, ⟨by decide, Jv.log_small (by decide) (by decide)⟩, fun L H2 l0 l1 kp2 hh2 => ?_⟩
    walk_at "r"
    have hL : 0 ≤ L ∧ L ≤ 6 := by omega
    have b1 := (lvl_len hL (n := L.toNat) (by omega)).2
    refine ⟨_, rfl, L, rfl, hL, fun ys H3 s3 r3 p hp => ?_⟩
    have s4 := Jv.same_new (u := .lst ys) hp
    have ep : upd H3 p (.lst ys) p = some (.lst ys) := upd_same
    have r4 := r3.same s4
    generalize upd H3 p (.lst ys) = H4 at s4 ep r4
    walk_at "r"
    refine ⟨L, rfl, hL, fun q us H5 s5 e5 r5 => ?_⟩
    have shp : SeqAt.shaped (.list ((outI L L.toNat).map fun ns => .tuple (ns.map .int))) = true := shaped_rows _
    refine Jv.eq_self (.lst (s5 _ _ ep) (r4.same s5).dv) (.lst e5 r5.dv) shp ?_
    walk_at "r"
    refine Jv.tLc_inl (Jv.lcRF (K := K) (i := 7) (j := 8) (by rfl) (s5 _ _ ep) (r4.same s5) (fun _ => false) (by omega) (fun b ms H6 m6 s6 sq6 R hR => ?_) (fun b H6 P hP => ?_) (fun D qs H6 s6 hD eD rD => ?_))
    · walk_at "r"
      refine Jv.d_isT (Jv.tupI sq6) ?_
      walk_at "r"
      exact hR
    · walk_at "r"
      exact hP
    rw [List.filter_eq_nil_iff.mpr (fun _ _ => Bool.false_ne_true)] at rD
    cases rD
    walk_at "r"
    intro em hem
    refine Jv.eq_self (Jv.lstI (ns := []) (Jv.kp eD hem)) (Jv.lstI (ns := []) upd_same) (Jv.shapedL _) ?_
    exact k _
end
end K09

namespace K09
open PySem PySem.Spec PyProof.Rows L2
theorem all_mk {P : Program} {w : World} {fa : Addr} {K : PySem.W.Frag} {h : Heap} {mg : Str → Option Value} (X : K.In h) (G : h.Ns mainGlobals mg) (hfa : mg "law" = some (.ref fa))
  {C_CallError : Addr}
  {C_BadRow : Addr}
  {f_is_whole : Addr} {od_is_whole an_is_whole : Option Addr} {sl_is_whole : Array (Option Value)} {oc_is_whole kV_is_whole dc_is_whole pm_is_whole cd_is_whole ct_is_whole : Value}
  {q_is_whole : Addr} {qc_is_whole : Value} {qd_is_whole : Option Addr} {qs_is_whole : Array (Option Value)} {qn_is_whole : Nat}
  {f_is_sequence : Addr} {od_is_sequence an_is_sequence : Option Addr} {sl_is_sequence : Array (Option Value)} {oc_is_sequence kV_is_sequence dc_is_sequence pm_is_sequence cd_is_sequence ct_is_sequence : Value}
  {f_is_row : Addr} {od_is_row an_is_row : Option Addr} {sl_is_row : Array (Option Value)} {oc_is_row kV_is_row dc_is_row pm_is_row cd_is_row ct_is_row : Value}
  {f_check_row : Addr} {od_check_row an_check_row : Option Addr} {sl_check_row : Array (Option Value)} {oc_check_row kV_check_row dc_check_row pm_check_row cd_check_row ct_check_row : Value}
  {f_standing_at : Addr} {od_standing_at an_standing_at : Option Addr} {sl_standing_at : Array (Option Value)} {oc_standing_at kV_standing_at dc_standing_at pm_standing_at cd_standing_at ct_standing_at : Value}
  {f_end_at : Addr} {od_end_at an_end_at : Option Addr} {sl_end_at : Array (Option Value)} {oc_end_at kV_end_at dc_end_at pm_end_at cd_end_at ct_end_at : Value}
  {f_is_ended : Addr} {od_is_ended an_is_ended : Option Addr} {sl_is_ended : Array (Option Value)} {oc_is_ended kV_is_ended dc_is_ended pm_is_ended cd_is_ended ct_is_ended : Value}
  {f_speaker_at : Addr} {od_speaker_at an_speaker_at : Option Addr} {sl_speaker_at : Array (Option Value)} {oc_speaker_at kV_speaker_at dc_speaker_at pm_speaker_at cd_speaker_at ct_speaker_at : Value}
  {f_words_of : Addr} {od_words_of an_words_of : Option Addr} {sl_words_of : Array (Option Value)} {oc_words_of kV_words_of dc_words_of pm_words_of cd_words_of ct_words_of : Value}
  {f_foe_words_of : Addr} {od_foe_words_of an_foe_words_of : Option Addr} {sl_foe_words_of : Array (Option Value)} {oc_foe_words_of kV_foe_words_of dc_foe_words_of pm_foe_words_of cd_foe_words_of ct_foe_words_of : Value}
  {f_next_words : Addr} {od_next_words an_next_words : Option Addr} {sl_next_words : Array (Option Value)} {oc_next_words kV_next_words dc_next_words pm_next_words cd_next_words ct_next_words : Value}
  {f_may_be_said : Addr} {od_may_be_said an_may_be_said : Option Addr} {sl_may_be_said : Array (Option Value)} {oc_may_be_said kV_may_be_said dc_may_be_said pm_may_be_said cd_may_be_said ct_may_be_said : Value}
  {f_all_foe_words : Addr} {od_all_foe_words an_all_foe_words : Option Addr} {sl_all_foe_words : Array (Option Value)} {oc_all_foe_words kV_all_foe_words dc_all_foe_words pm_all_foe_words cd_all_foe_words ct_all_foe_words : Value}
  {f_Lmix : Addr} {od_Lmix an_Lmix : Option Addr} {sl_Lmix : Array (Option Value)} {oc_Lmix kV_Lmix dc_Lmix pm_Lmix cd_Lmix ct_Lmix : Value}
  {f_Lhand : Addr} {od_Lhand an_Lhand : Option Addr} {sl_Lhand : Array (Option Value)} {oc_Lhand kV_Lhand dc_Lhand pm_Lhand cd_Lhand ct_Lhand : Value}
  {f_Ldraw : Addr} {od_Ldraw an_Ldraw : Option Addr} {sl_Ldraw : Array (Option Value)} {oc_Ldraw kV_Ldraw dc_Ldraw pm_Ldraw cd_Ldraw ct_Ldraw : Value}
  {f_Lpick : Addr} {od_Lpick an_Lpick : Option Addr} {sl_Lpick : Array (Option Value)} {oc_Lpick kV_Lpick dc_Lpick pm_Lpick cd_Lpick ct_Lpick : Value}
  {f_Lwhole : Addr} {od_Lwhole an_Lwhole : Option Addr} {sl_Lwhole : Array (Option Value)} {oc_Lwhole kV_Lwhole dc_Lwhole pm_Lwhole cd_Lwhole ct_Lwhole : Value}
  {f_Lis : Addr} {od_Lis an_Lis : Option Addr} {sl_Lis : Array (Option Value)} {oc_Lis kV_Lis dc_Lis pm_Lis cd_Lis ct_Lis : Value}
  {f_Lover : Addr} {od_Lover an_Lover : Option Addr} {sl_Lover : Array (Option Value)} {oc_Lover kV_Lover dc_Lover pm_Lover cd_Lover ct_Lover : Value}
  {f_Lturn : Addr} {od_Lturn an_Lturn : Option Addr} {sl_Lturn : Array (Option Value)} {oc_Lturn kV_Lturn dc_Lturn pm_Lturn cd_Lturn ct_Lturn : Value}
  {f_Lnexts : Addr} {od_Lnexts an_Lnexts : Option Addr} {sl_Lnexts : Array (Option Value)} {oc_Lnexts kV_Lnexts dc_Lnexts pm_Lnexts cd_Lnexts ct_Lnexts : Value}
  {f_Lend : Addr} {od_Lend an_Lend : Option Addr} {sl_Lend : Array (Option Value)} {oc_Lend kV_Lend dc_Lend pm_Lend cd_Lend ct_Lend : Value}
  {f_Lfoe_rows : Addr} {od_Lfoe_rows an_Lfoe_rows : Option Addr} {sl_Lfoe_rows : Array (Option Value)} {oc_Lfoe_rows kV_Lfoe_rows dc_Lfoe_rows pm_Lfoe_rows cd_Lfoe_rows ct_Lfoe_rows : Value}
  {f_Lis_row : Addr} {od_Lis_row an_Lis_row : Option Addr} {sl_Lis_row : Array (Option Value)} {oc_Lis_row kV_Lis_row dc_Lis_row pm_Lis_row cd_Lis_row ct_Lis_row : Value}
  {f_Lrefused : Addr} {od_Lrefused an_Lrefused : Option Addr} {sl_Lrefused : Array (Option Value)} {oc_Lrefused kV_Lrefused dc_Lrefused pm_Lrefused cd_Lrefused ct_Lrefused : Value}
  {f_Lasked : Addr} {od_Lasked an_Lasked : Option Addr} {sl_Lasked : Array (Option Value)} {oc_Lasked kV_Lasked dc_Lasked pm_Lasked cd_Lasked ct_Lasked : Value}
  {f_Lsmall : Addr} {od_Lsmall an_Lsmall : Option Addr} {sl_Lsmall : Array (Option Value)} {oc_Lsmall kV_Lsmall dc_Lsmall pm_Lsmall cd_Lsmall ct_Lsmall : Value}
  {f_Lrow : Addr} {od_Lrow an_Lrow : Option Addr} {sl_Lrow : Array (Option Value)} {oc_Lrow kV_Lrow dc_Lrow pm_Lrow cd_Lrow ct_Lrow : Value}
  {f_Lspoilt : Addr} {od_Lspoilt an_Lspoilt : Option Addr} {sl_Lspoilt : Array (Option Value)} {oc_Lspoilt kV_Lspoilt dc_Lspoilt pm_Lspoilt cd_Lspoilt ct_Lspoilt : Value}
  {f_law : Addr} {od_law an_law : Option Addr} {sl_law : Array (Option Value)} {oc_law kV_law dc_law pm_law cd_law ct_law : Value}
  {t_STOP : Tok}
  (a_CallError : PySem.W.nsIn K mainGlobals "CallError" = some (some (.ref C_CallError)))
  (a_BadRow : PySem.W.nsIn K mainGlobals "BadRow" = some (some (.ref C_BadRow)))
  (a_is_whole : PySem.W.nsIn K mainGlobals "is_whole" = some (some (.ref f_is_whole)))
  (l_is_whole : K.lookup f_is_whole = some ⟨oc_is_whole, od_is_whole, .func (PySem.W.fnOf "is_whole" "is_whole" (defArgs s_is_whole) (defBody s_is_whole) (defScope s_is_whole) (.ref q_is_whole) kV_is_whole dc_is_whole pm_is_whole an_is_whole cd_is_whole ct_is_whole), sl_is_whole⟩)
  (c_is_whole : PySem.W.codeIn K cd_is_whole "is_whole" = true)
  (k_is_whole : PySem.W.keepIn K (.ref f_is_whole) = true)
  (t_is_whole : K.lookup q_is_whole = some ⟨qc_is_whole, qd_is_whole, .seq #[Value.none, Value.none] qn_is_whole, qs_is_whole⟩)
  (a_is_sequence : PySem.W.nsIn K mainGlobals "is_sequence" = some (some (.ref f_is_sequence)))
  (l_is_sequence : K.lookup f_is_sequence = some ⟨oc_is_sequence, od_is_sequence, .func (PySem.W.fnOf "is_sequence" "is_sequence" (defArgs s_is_sequence) (defBody s_is_sequence) (defScope s_is_sequence) .none kV_is_sequence dc_is_sequence pm_is_sequence an_is_sequence cd_is_sequence ct_is_sequence), sl_is_sequence⟩)
  (c_is_sequence : PySem.W.codeIn K cd_is_sequence "is_sequence" = true)
  (k_is_sequence : PySem.W.keepIn K (.ref f_is_sequence) = true)
  (a_is_row : PySem.W.nsIn K mainGlobals "is_row" = some (some (.ref f_is_row)))
  (l_is_row : K.lookup f_is_row = some ⟨oc_is_row, od_is_row, .func (PySem.W.fnOf "is_row" "is_row" (defArgs s_is_row) (defBody s_is_row) (defScope s_is_row) .none kV_is_row dc_is_row pm_is_row an_is_row cd_is_row ct_is_row), sl_is_row⟩)
  (c_is_row : PySem.W.codeIn K cd_is_row "is_row" = true)
  (k_is_row : PySem.W.keepIn K (.ref f_is_row) = true)
  (a_check_row : PySem.W.nsIn K mainGlobals "check_row" = some (some (.ref f_check_row)))
  (l_check_row : K.lookup f_check_row = some ⟨oc_check_row, od_check_row, .func (PySem.W.fnOf "check_row" "check_row" (defArgs s_check_row) (defBody s_check_row) (defScope s_check_row) .none kV_check_row dc_check_row pm_check_row an_check_row cd_check_row ct_check_row), sl_check_row⟩)
  (c_check_row : PySem.W.codeIn K cd_check_row "check_row" = true)
  (k_check_row : PySem.W.keepIn K (.ref f_check_row) = true)
  (a_standing_at : PySem.W.nsIn K mainGlobals "standing_at" = some (some (.ref f_standing_at)))
  (l_standing_at : K.lookup f_standing_at = some ⟨oc_standing_at, od_standing_at, .func (PySem.W.fnOf "standing_at" "standing_at" (defArgs s_standing_at) (defBody s_standing_at) (defScope s_standing_at) .none kV_standing_at dc_standing_at pm_standing_at an_standing_at cd_standing_at ct_standing_at), sl_standing_at⟩)
  (c_standing_at : PySem.W.codeIn K cd_standing_at "standing_at" = true)
  (k_standing_at : PySem.W.keepIn K (.ref f_standing_at) = true)
  (a_end_at : PySem.W.nsIn K mainGlobals "end_at" = some (some (.ref f_end_at)))
  (l_end_at : K.lookup f_end_at = some ⟨oc_end_at, od_end_at, .func (PySem.W.fnOf "end_at" "end_at" (defArgs s_end_at) (defBody s_end_at) (defScope s_end_at) .none kV_end_at dc_end_at pm_end_at an_end_at cd_end_at ct_end_at), sl_end_at⟩)
  (c_end_at : PySem.W.codeIn K cd_end_at "end_at" = true)
  (k_end_at : PySem.W.keepIn K (.ref f_end_at) = true)
  (a_is_ended : PySem.W.nsIn K mainGlobals "is_ended" = some (some (.ref f_is_ended)))
  (l_is_ended : K.lookup f_is_ended = some ⟨oc_is_ended, od_is_ended, .func (PySem.W.fnOf "is_ended" "is_ended" (defArgs s_is_ended) (defBody s_is_ended) (defScope s_is_ended) .none kV_is_ended dc_is_ended pm_is_ended an_is_ended cd_is_ended ct_is_ended), sl_is_ended⟩)
  (c_is_ended : PySem.W.codeIn K cd_is_ended "is_ended" = true)
  (k_is_ended : PySem.W.keepIn K (.ref f_is_ended) = true)
  (a_speaker_at : PySem.W.nsIn K mainGlobals "speaker_at" = some (some (.ref f_speaker_at)))
  (l_speaker_at : K.lookup f_speaker_at = some ⟨oc_speaker_at, od_speaker_at, .func (PySem.W.fnOf "speaker_at" "speaker_at" (defArgs s_speaker_at) (defBody s_speaker_at) (defScope s_speaker_at) .none kV_speaker_at dc_speaker_at pm_speaker_at an_speaker_at cd_speaker_at ct_speaker_at), sl_speaker_at⟩)
  (c_speaker_at : PySem.W.codeIn K cd_speaker_at "speaker_at" = true)
  (k_speaker_at : PySem.W.keepIn K (.ref f_speaker_at) = true)
  (a_words_of : PySem.W.nsIn K mainGlobals "words_of" = some (some (.ref f_words_of)))
  (l_words_of : K.lookup f_words_of = some ⟨oc_words_of, od_words_of, .func (PySem.W.fnOf "words_of" "words_of" (defArgs s_words_of) (defBody s_words_of) (defScope s_words_of) .none kV_words_of dc_words_of pm_words_of an_words_of cd_words_of ct_words_of), sl_words_of⟩)
  (c_words_of : PySem.W.codeIn K cd_words_of "words_of" = true)
  (k_words_of : PySem.W.keepIn K (.ref f_words_of) = true)
  (a_foe_words_of : PySem.W.nsIn K mainGlobals "foe_words_of" = some (some (.ref f_foe_words_of)))
  (l_foe_words_of : K.lookup f_foe_words_of = some ⟨oc_foe_words_of, od_foe_words_of, .func (PySem.W.fnOf "foe_words_of" "foe_words_of" (defArgs s_foe_words_of) (defBody s_foe_words_of) (defScope s_foe_words_of) .none kV_foe_words_of dc_foe_words_of pm_foe_words_of an_foe_words_of cd_foe_words_of ct_foe_words_of), sl_foe_words_of⟩)
  (c_foe_words_of : PySem.W.codeIn K cd_foe_words_of "foe_words_of" = true)
  (k_foe_words_of : PySem.W.keepIn K (.ref f_foe_words_of) = true)
  (a_next_words : PySem.W.nsIn K mainGlobals "next_words" = some (some (.ref f_next_words)))
  (l_next_words : K.lookup f_next_words = some ⟨oc_next_words, od_next_words, .func (PySem.W.fnOf "next_words" "next_words" (defArgs s_next_words) (defBody s_next_words) (defScope s_next_words) .none kV_next_words dc_next_words pm_next_words an_next_words cd_next_words ct_next_words), sl_next_words⟩)
  (c_next_words : PySem.W.codeIn K cd_next_words "next_words" = true)
  (k_next_words : PySem.W.keepIn K (.ref f_next_words) = true)
  (a_may_be_said : PySem.W.nsIn K mainGlobals "may_be_said" = some (some (.ref f_may_be_said)))
  (l_may_be_said : K.lookup f_may_be_said = some ⟨oc_may_be_said, od_may_be_said, .func (PySem.W.fnOf "may_be_said" "may_be_said" (defArgs s_may_be_said) (defBody s_may_be_said) (defScope s_may_be_said) .none kV_may_be_said dc_may_be_said pm_may_be_said an_may_be_said cd_may_be_said ct_may_be_said), sl_may_be_said⟩)
  (c_may_be_said : PySem.W.codeIn K cd_may_be_said "may_be_said" = true)
  (k_may_be_said : PySem.W.keepIn K (.ref f_may_be_said) = true)
  (a_all_foe_words : PySem.W.nsIn K mainGlobals "all_foe_words" = some (some (.ref f_all_foe_words)))
  (l_all_foe_words : K.lookup f_all_foe_words = some ⟨oc_all_foe_words, od_all_foe_words, .func (PySem.W.fnOf "all_foe_words" "all_foe_words" (defArgs s_all_foe_words) (defBody s_all_foe_words) (defScope s_all_foe_words) .none kV_all_foe_words dc_all_foe_words pm_all_foe_words an_all_foe_words cd_all_foe_words ct_all_foe_words), sl_all_foe_words⟩)
  (c_all_foe_words : PySem.W.codeIn K cd_all_foe_words "all_foe_words" = true)
  (k_all_foe_words : PySem.W.keepIn K (.ref f_all_foe_words) = true)
  (a_Lmix : PySem.W.nsIn K mainGlobals "_law_mix" = some (some (.ref f_Lmix)))
  (l_Lmix : K.lookup f_Lmix = some ⟨oc_Lmix, od_Lmix, .func (PySem.W.fnOf "_law_mix" "_law_mix" (defArgs s_Lmix) (defBody s_Lmix) (defScope s_Lmix) .none kV_Lmix dc_Lmix pm_Lmix an_Lmix cd_Lmix ct_Lmix), sl_Lmix⟩)
  (c_Lmix : PySem.W.codeIn K cd_Lmix "_law_mix" = true)
  (k_Lmix : PySem.W.keepIn K (.ref f_Lmix) = true)
  (a_Lhand : PySem.W.nsIn K mainGlobals "_law_hand" = some (some (.ref f_Lhand)))
  (l_Lhand : K.lookup f_Lhand = some ⟨oc_Lhand, od_Lhand, .func (PySem.W.fnOf "_law_hand" "_law_hand" (defArgs s_Lhand) (defBody s_Lhand) (defScope s_Lhand) .none kV_Lhand dc_Lhand pm_Lhand an_Lhand cd_Lhand ct_Lhand), sl_Lhand⟩)
  (c_Lhand : PySem.W.codeIn K cd_Lhand "_law_hand" = true)
  (k_Lhand : PySem.W.keepIn K (.ref f_Lhand) = true)
  (a_Ldraw : PySem.W.nsIn K mainGlobals "_law_draw" = some (some (.ref f_Ldraw)))
  (l_Ldraw : K.lookup f_Ldraw = some ⟨oc_Ldraw, od_Ldraw, .func (PySem.W.fnOf "_law_draw" "_law_draw" (defArgs s_Ldraw) (defBody s_Ldraw) (defScope s_Ldraw) .none kV_Ldraw dc_Ldraw pm_Ldraw an_Ldraw cd_Ldraw ct_Ldraw), sl_Ldraw⟩)
  (c_Ldraw : PySem.W.codeIn K cd_Ldraw "_law_draw" = true)
  (k_Ldraw : PySem.W.keepIn K (.ref f_Ldraw) = true)
  (a_Lpick : PySem.W.nsIn K mainGlobals "_law_pick" = some (some (.ref f_Lpick)))
  (l_Lpick : K.lookup f_Lpick = some ⟨oc_Lpick, od_Lpick, .func (PySem.W.fnOf "_law_pick" "_law_pick" (defArgs s_Lpick) (defBody s_Lpick) (defScope s_Lpick) .none kV_Lpick dc_Lpick pm_Lpick an_Lpick cd_Lpick ct_Lpick), sl_Lpick⟩)
  (c_Lpick : PySem.W.codeIn K cd_Lpick "_law_pick" = true)
  (k_Lpick : PySem.W.keepIn K (.ref f_Lpick) = true)
  (a_Lwhole : PySem.W.nsIn K mainGlobals "_law_whole" = some (some (.ref f_Lwhole)))
  (l_Lwhole : K.lookup f_Lwhole = some ⟨oc_Lwhole, od_Lwhole, .func (PySem.W.fnOf "_law_whole" "_law_whole" (defArgs s_Lwhole) (defBody s_Lwhole) (defScope s_Lwhole) .none kV_Lwhole dc_Lwhole pm_Lwhole an_Lwhole cd_Lwhole ct_Lwhole), sl_Lwhole⟩)
  (c_Lwhole : PySem.W.codeIn K cd_Lwhole "_law_whole" = true)
  (k_Lwhole : PySem.W.keepIn K (.ref f_Lwhole) = true)
  (a_Lis : PySem.W.nsIn K mainGlobals "_law_is" = some (some (.ref f_Lis)))
  (l_Lis : K.lookup f_Lis = some ⟨oc_Lis, od_Lis, .func (PySem.W.fnOf "_law_is" "_law_is" (defArgs s_Lis) (defBody s_Lis) (defScope s_Lis) .none kV_Lis dc_Lis pm_Lis an_Lis cd_Lis ct_Lis), sl_Lis⟩)
  (c_Lis : PySem.W.codeIn K cd_Lis "_law_is" = true)
  (k_Lis : PySem.W.keepIn K (.ref f_Lis) = true)
  (a_Lover : PySem.W.nsIn K mainGlobals "_law_over" = some (some (.ref f_Lover)))
  (l_Lover : K.lookup f_Lover = some ⟨oc_Lover, od_Lover, .func (PySem.W.fnOf "_law_over" "_law_over" (defArgs s_Lover) (defBody s_Lover) (defScope s_Lover) .none kV_Lover dc_Lover pm_Lover an_Lover cd_Lover ct_Lover), sl_Lover⟩)
  (c_Lover : PySem.W.codeIn K cd_Lover "_law_over" = true)
  (k_Lover : PySem.W.keepIn K (.ref f_Lover) = true)
  (a_Lturn : PySem.W.nsIn K mainGlobals "_law_turn" = some (some (.ref f_Lturn)))
  (l_Lturn : K.lookup f_Lturn = some ⟨oc_Lturn, od_Lturn, .func (PySem.W.fnOf "_law_turn" "_law_turn" (defArgs s_Lturn) (defBody s_Lturn) (defScope s_Lturn) .none kV_Lturn dc_Lturn pm_Lturn an_Lturn cd_Lturn ct_Lturn), sl_Lturn⟩)
  (c_Lturn : PySem.W.codeIn K cd_Lturn "_law_turn" = true)
  (k_Lturn : PySem.W.keepIn K (.ref f_Lturn) = true)
  (a_Lnexts : PySem.W.nsIn K mainGlobals "_law_nexts" = some (some (.ref f_Lnexts)))
  (l_Lnexts : K.lookup f_Lnexts = some ⟨oc_Lnexts, od_Lnexts, .func (PySem.W.fnOf "_law_nexts" "_law_nexts" (defArgs s_Lnexts) (defBody s_Lnexts) (defScope s_Lnexts) .none kV_Lnexts dc_Lnexts pm_Lnexts an_Lnexts cd_Lnexts ct_Lnexts), sl_Lnexts⟩)
  (c_Lnexts : PySem.W.codeIn K cd_Lnexts "_law_nexts" = true)
  (k_Lnexts : PySem.W.keepIn K (.ref f_Lnexts) = true)
  (a_Lend : PySem.W.nsIn K mainGlobals "_law_end" = some (some (.ref f_Lend)))
  (l_Lend : K.lookup f_Lend = some ⟨oc_Lend, od_Lend, .func (PySem.W.fnOf "_law_end" "_law_end" (defArgs s_Lend) (defBody s_Lend) (defScope s_Lend) .none kV_Lend dc_Lend pm_Lend an_Lend cd_Lend ct_Lend), sl_Lend⟩)
  (c_Lend : PySem.W.codeIn K cd_Lend "_law_end" = true)
  (k_Lend : PySem.W.keepIn K (.ref f_Lend) = true)
  (a_Lfoe_rows : PySem.W.nsIn K mainGlobals "_law_foe_rows" = some (some (.ref f_Lfoe_rows)))
  (l_Lfoe_rows : K.lookup f_Lfoe_rows = some ⟨oc_Lfoe_rows, od_Lfoe_rows, .func (PySem.W.fnOf "_law_foe_rows" "_law_foe_rows" (defArgs s_Lfoe_rows) (defBody s_Lfoe_rows) (defScope s_Lfoe_rows) .none kV_Lfoe_rows dc_Lfoe_rows pm_Lfoe_rows an_Lfoe_rows cd_Lfoe_rows ct_Lfoe_rows), sl_Lfoe_rows⟩)
  (c_Lfoe_rows : PySem.W.codeIn K cd_Lfoe_rows "_law_foe_rows" = true)
  (k_Lfoe_rows : PySem.W.keepIn K (.ref f_Lfoe_rows) = true)
  (a_Lis_row : PySem.W.nsIn K mainGlobals "_law_is_row" = some (some (.ref f_Lis_row)))
  (l_Lis_row : K.lookup f_Lis_row = some ⟨oc_Lis_row, od_Lis_row, .func (PySem.W.fnOf "_law_is_row" "_law_is_row" (defArgs s_Lis_row) (defBody s_Lis_row) (defScope s_Lis_row) .none kV_Lis_row dc_Lis_row pm_Lis_row an_Lis_row cd_Lis_row ct_Lis_row), sl_Lis_row⟩)
  (c_Lis_row : PySem.W.codeIn K cd_Lis_row "_law_is_row" = true)
  (k_Lis_row : PySem.W.keepIn K (.ref f_Lis_row) = true)
  (a_Lrefused : PySem.W.nsIn K mainGlobals "_law_refused" = some (some (.ref f_Lrefused)))
  (l_Lrefused : K.lookup f_Lrefused = some ⟨oc_Lrefused, od_Lrefused, .func (PySem.W.fnOf "_law_refused" "_law_refused" (defArgs s_Lrefused) (defBody s_Lrefused) (defScope s_Lrefused) .none kV_Lrefused dc_Lrefused pm_Lrefused an_Lrefused cd_Lrefused ct_Lrefused), sl_Lrefused⟩)
  (c_Lrefused : PySem.W.codeIn K cd_Lrefused "_law_refused" = true)
  (k_Lrefused : PySem.W.keepIn K (.ref f_Lrefused) = true)
  (a_Lasked : PySem.W.nsIn K mainGlobals "_law_asked" = some (some (.ref f_Lasked)))
  (l_Lasked : K.lookup f_Lasked = some ⟨oc_Lasked, od_Lasked, .func (PySem.W.fnOf "_law_asked" "_law_asked" (defArgs s_Lasked) (defBody s_Lasked) (defScope s_Lasked) .none kV_Lasked dc_Lasked pm_Lasked an_Lasked cd_Lasked ct_Lasked), sl_Lasked⟩)
  (c_Lasked : PySem.W.codeIn K cd_Lasked "_law_asked" = true)
  (k_Lasked : PySem.W.keepIn K (.ref f_Lasked) = true)
  (a_Lsmall : PySem.W.nsIn K mainGlobals "_law_small" = some (some (.ref f_Lsmall)))
  (l_Lsmall : K.lookup f_Lsmall = some ⟨oc_Lsmall, od_Lsmall, .func (PySem.W.fnOf "_law_small" "_law_small" (defArgs s_Lsmall) (defBody s_Lsmall) (defScope s_Lsmall) .none kV_Lsmall dc_Lsmall pm_Lsmall an_Lsmall cd_Lsmall ct_Lsmall), sl_Lsmall⟩)
  (c_Lsmall : PySem.W.codeIn K cd_Lsmall "_law_small" = true)
  (k_Lsmall : PySem.W.keepIn K (.ref f_Lsmall) = true)
  (a_Lrow : PySem.W.nsIn K mainGlobals "_law_row" = some (some (.ref f_Lrow)))
  (l_Lrow : K.lookup f_Lrow = some ⟨oc_Lrow, od_Lrow, .func (PySem.W.fnOf "_law_row" "_law_row" (defArgs s_Lrow) (defBody s_Lrow) (defScope s_Lrow) .none kV_Lrow dc_Lrow pm_Lrow an_Lrow cd_Lrow ct_Lrow), sl_Lrow⟩)
  (c_Lrow : PySem.W.codeIn K cd_Lrow "_law_row" = true)
  (k_Lrow : PySem.W.keepIn K (.ref f_Lrow) = true)
  (a_Lspoilt : PySem.W.nsIn K mainGlobals "_law_spoilt" = some (some (.ref f_Lspoilt)))
  (l_Lspoilt : K.lookup f_Lspoilt = some ⟨oc_Lspoilt, od_Lspoilt, .func (PySem.W.fnOf "_law_spoilt" "_law_spoilt" (defArgs s_Lspoilt) (defBody s_Lspoilt) (defScope s_Lspoilt) .none kV_Lspoilt dc_Lspoilt pm_Lspoilt an_Lspoilt cd_Lspoilt ct_Lspoilt), sl_Lspoilt⟩)
  (c_Lspoilt : PySem.W.codeIn K cd_Lspoilt "_law_spoilt" = true)
  (k_Lspoilt : PySem.W.keepIn K (.ref f_Lspoilt) = true)
  (a_law : PySem.W.nsIn K mainGlobals "law" = some (some (.ref f_law)))
  (l_law : K.lookup f_law = some ⟨oc_law, od_law, .func (PySem.W.fnOf "law" "law" (defArgs s_law) (defBody s_law) (defScope s_law) .none kV_law dc_law pm_law an_law cd_law ct_law), sl_law⟩)
  (c_law : PySem.W.codeIn K cd_law "law" = true)
  (k_law : PySem.W.keepIn K (.ref f_law) = true)
  (k_CallError : PySem.W.keepIn K (.ref C_CallError) = true)
  (b_CallError : PySem.W.subIn K (.ref C_CallError) (.type "BaseException") = some true)
  (t_CallError : PySem.W.typeIn K (.ref C_CallError) = some (.type "type"))
  (i_CallError : PySem.W.isClsIn K C_CallError = true)
  (s_CallError : PySem.W.subIn K (.ref C_CallError) (.ref C_CallError) = some true)
  (x_CallError : PySem.W.excIn K C_CallError [.type "ValueError", .type "Exception", .type "BaseException", .type "object"] "ValueError.__new__" = true)
  (k_BadRow : PySem.W.keepIn K (.ref C_BadRow) = true)
  (b_BadRow : PySem.W.subIn K (.ref C_BadRow) (.type "BaseException") = some true)
  (t_BadRow : PySem.W.typeIn K (.ref C_BadRow) = some (.type "type"))
  (i_BadRow : PySem.W.isClsIn K C_BadRow = true)
  (s_BadRow : PySem.W.subIn K (.ref C_BadRow) (.ref C_BadRow) = some true)
  (x_BadRow : PySem.W.excIn K C_BadRow [.type "ValueError", .type "Exception", .type "BaseException", .type "object"] "ValueError.__new__" = true)
  (z_ValueError : PySem.W.nsIn K mainGlobals "ValueError" = some none)
  (z_abs : PySem.W.nsIn K mainGlobals "abs" = some none)
  (z_bool : PySem.W.nsIn K mainGlobals "bool" = some none)
  (z_enumerate : PySem.W.nsIn K mainGlobals "enumerate" = some none)
  (z_int : PySem.W.nsIn K mainGlobals "int" = some none)
  (z_isinstance : PySem.W.nsIn K mainGlobals "isinstance" = some none)
  (z_len : PySem.W.nsIn K mainGlobals "len" = some none)
  (z_list : PySem.W.nsIn K mainGlobals "list" = some none)
  (z_max : PySem.W.nsIn K mainGlobals "max" = some none)
  (z_range : PySem.W.nsIn K mainGlobals "range" = some none)
  (z_repr : PySem.W.nsIn K mainGlobals "repr" = some none)
  (z_tuple : PySem.W.nsIn K mainGlobals "tuple" = some none)
  (c_STOP : PySem.W.nsIn K mainGlobals "STOP" = some (some (.int (0) t_STOP)))
  (zz_i_BadRow_ga : PySem.W.findIn K (.ref C_BadRow) "__getattribute__" = some (some (.builtin "BaseException.__getattribute__")))
  (zz_i_BadRow_gg : PySem.W.findIn K (.ref C_BadRow) "__getattr__" = some none)
  (zz_i_BadRow_ca : PySem.W.findIn K (.ref C_BadRow) "__class__" = some (some (.builtin "object.__class__")))
  (zz_i_BadRow_sp : PySem.W.specialIn K (.builtin "object.__class__") "__get__" = some (some (.builtin "getset_descriptor.__get__")))
  (zz_i_BadRow_tk : PySem.W.takesIn K (.builtin "object.__class__") = some true)
  (zz_i_BadRow_mr : PySem.W.mroIn K C_BadRow (.type "object") = some true)
  (zz_i_BadRow_xc : PySem.W.kitOne K (.ref C_BadRow) (.ref C_CallError) = some true)
  (zz_i_BadRow_xv : PySem.W.kitOne K (.ref C_BadRow) (.type "ValueError") = some true) :
    ∃ fd : FuncData, (∀ (s : Shared) (v : Value), BindsTo s fd ⟨[v], []⟩ [("_law_script", v)]) ∧ ∀ base : Heap, K.In base → base.Ns mainGlobals mg → Jv.FnG P w K mg base CX0 8 fa fd ["_law_script"] (sp_law K) := by
  have e : f_law = fa := Value.ref.inj (Option.some.inj ((PySem.W.mg_of X G a_law).symm.trans hfa))
  subst e
  have F_is_whole : FunD K "is_whole" "is_whole" (defArgs s_is_whole) (defBody s_is_whole) (defScope s_is_whole) [.non, .non] [] f_is_whole (PySem.W.fnOf "is_whole" "is_whole" (defArgs s_is_whole) (defBody s_is_whole) (defScope s_is_whole) (.ref q_is_whole) kV_is_whole dc_is_whole pm_is_whole an_is_whole cd_is_whole ct_is_whole) := ⟨⟨oc_is_whole, od_is_whole, _, kV_is_whole, dc_is_whole, pm_is_whole, an_is_whole, cd_is_whole, ct_is_whole, sl_is_whole, rfl, l_is_whole, c_is_whole, .inr ⟨by simp, q_is_whole, _, [Value.none, Value.none], qn_is_whole, rfl, t_is_whole, rfl, (.cons rfl (.cons rfl .nil))⟩, .inl rfl⟩, k_is_whole⟩
  have F_is_sequence := fun_mk (st := s_is_sequence) l_is_sequence c_is_sequence k_is_sequence
  have F_is_row := fun_mk (st := s_is_row) l_is_row c_is_row k_is_row
  have F_check_row := fun_mk (st := s_check_row) l_check_row c_check_row k_check_row
  have F_standing_at := fun_mk (st := s_standing_at) l_standing_at c_standing_at k_standing_at
  have F_end_at := fun_mk (st := s_end_at) l_end_at c_end_at k_end_at
  have F_is_ended := fun_mk (st := s_is_ended) l_is_ended c_is_ended k_is_ended
  have F_speaker_at := fun_mk (st := s_speaker_at) l_speaker_at c_speaker_at k_speaker_at
  have F_words_of := fun_mk (st := s_words_of) l_words_of c_words_of k_words_of
  have F_foe_words_of := fun_mk (st := s_foe_words_of) l_foe_words_of c_foe_words_of k_foe_words_of
  have F_next_words := fun_mk (st := s_next_words) l_next_words c_next_words k_next_words
  have F_may_be_said := fun_mk (st := s_may_be_said) l_may_be_said c_may_be_said k_may_be_said
  have F_all_foe_words := fun_mk (st := s_all_foe_words) l_all_foe_words c_all_foe_words k_all_foe_words
  have F_Lmix := fun_mk (st := s_Lmix) l_Lmix c_Lmix k_Lmix
  have F_Lhand := fun_mk (st := s_Lhand) l_Lhand c_Lhand k_Lhand
  have F_Ldraw := fun_mk (st := s_Ldraw) l_Ldraw c_Ldraw k_Ldraw
  have F_Lpick := fun_mk (st := s_Lpick) l_Lpick c_Lpick k_Lpick
  have F_Lwhole := fun_mk (st := s_Lwhole) l_Lwhole c_Lwhole k_Lwhole
  have F_Lis := fun_mk (st := s_Lis) l_Lis c_Lis k_Lis
  have F_Lover := fun_mk (st := s_Lover) l_Lover c_Lover k_Lover
  have F_Lturn := fun_mk (st := s_Lturn) l_Lturn c_Lturn k_Lturn
  have F_Lnexts := fun_mk (st := s_Lnexts) l_Lnexts c_Lnexts k_Lnexts
  have F_Lend := fun_mk (st := s_Lend) l_Lend c_Lend k_Lend
  have F_Lfoe_rows := fun_mk (st := s_Lfoe_rows) l_Lfoe_rows c_Lfoe_rows k_Lfoe_rows
  have F_Lis_row := fun_mk (st := s_Lis_row) l_Lis_row c_Lis_row k_Lis_row
  have F_Lrefused := fun_mk (st := s_Lrefused) l_Lrefused c_Lrefused k_Lrefused
  have F_Lasked := fun_mk (st := s_Lasked) l_Lasked c_Lasked k_Lasked
  have F_Lsmall := fun_mk (st := s_Lsmall) l_Lsmall c_Lsmall k_Lsmall
  have F_Lrow := fun_mk (st := s_Lrow) l_Lrow c_Lrow k_Lrow
  have F_Lspoilt := fun_mk (st := s_Lspoilt) l_Lspoilt c_Lspoilt k_Lspoilt
  have F_law := fun_mk (st := s_law) l_law c_law k_law
  let T : Tx := {
    f_is_whole := f_is_whole,
    d_is_whole := PySem.W.fnOf "is_whole" "is_whole" (defArgs s_is_whole) (defBody s_is_whole) (defScope s_is_whole) (.ref q_is_whole) kV_is_whole dc_is_whole pm_is_whole an_is_whole cd_is_whole ct_is_whole,
    e1_is_whole := [Value.none],
    e2_is_whole := [Value.none, Value.none],
    f_is_sequence := f_is_sequence,
    d_is_sequence := PySem.W.fnOf "is_sequence" "is_sequence" (defArgs s_is_sequence) (defBody s_is_sequence) (defScope s_is_sequence) .none kV_is_sequence dc_is_sequence pm_is_sequence an_is_sequence cd_is_sequence ct_is_sequence,
    f_is_row := f_is_row,
    d_is_row := PySem.W.fnOf "is_row" "is_row" (defArgs s_is_row) (defBody s_is_row) (defScope s_is_row) .none kV_is_row dc_is_row pm_is_row an_is_row cd_is_row ct_is_row,
    f_check_row := f_check_row,
    d_check_row := PySem.W.fnOf "check_row" "check_row" (defArgs s_check_row) (defBody s_check_row) (defScope s_check_row) .none kV_check_row dc_check_row pm_check_row an_check_row cd_check_row ct_check_row,
    f_standing_at := f_standing_at,
    d_standing_at := PySem.W.fnOf "standing_at" "standing_at" (defArgs s_standing_at) (defBody s_standing_at) (defScope s_standing_at) .none kV_standing_at dc_standing_at pm_standing_at an_standing_at cd_standing_at ct_standing_at,
    f_end_at := f_end_at,
    d_end_at := PySem.W.fnOf "end_at" "end_at" (defArgs s_end_at) (defBody s_end_at) (defScope s_end_at) .none kV_end_at dc_end_at pm_end_at an_end_at cd_end_at ct_end_at,
    f_is_ended := f_is_ended,
    d_is_ended := PySem.W.fnOf "is_ended" "is_ended" (defArgs s_is_ended) (defBody s_is_ended) (defScope s_is_ended) .none kV_is_ended dc_is_ended pm_is_ended an_is_ended cd_is_ended ct_is_ended,
    f_speaker_at := f_speaker_at,
    d_speaker_at := PySem.W.fnOf "speaker_at" "speaker_at" (defArgs s_speaker_at) (defBody s_speaker_at) (defScope s_speaker_at) .none kV_speaker_at dc_speaker_at pm_speaker_at an_speaker_at cd_speaker_at ct_speaker_at,
    f_words_of := f_words_of,
    d_words_of := PySem.W.fnOf "words_of" "words_of" (defArgs s_words_of) (defBody s_words_of) (defScope s_words_of) .none kV_words_of dc_words_of pm_words_of an_words_of cd_words_of ct_words_of,
    f_foe_words_of := f_foe_words_of,
    d_foe_words_of := PySem.W.fnOf "foe_words_of" "foe_words_of" (defArgs s_foe_words_of) (defBody s_foe_words_of) (defScope s_foe_words_of) .none kV_foe_words_of dc_foe_words_of pm_foe_words_of an_foe_words_of cd_foe_words_of ct_foe_words_of,
    f_next_words := f_next_words,
    d_next_words := PySem.W.fnOf "next_words" "next_words" (defArgs s_next_words) (defBody s_next_words) (defScope s_next_words) .none kV_next_words dc_next_words pm_next_words an_next_words cd_next_words ct_next_words,
    f_may_be_said := f_may_be_said,
    d_may_be_said := PySem.W.fnOf "may_be_said" "may_be_said" (defArgs s_may_be_said) (defBody s_may_be_said) (defScope s_may_be_said) .none kV_may_be_said dc_may_be_said pm_may_be_said an_may_be_said cd_may_be_said ct_may_be_said,
    f_all_foe_words := f_all_foe_words,
    d_all_foe_words := PySem.W.fnOf "all_foe_words" "all_foe_words" (defArgs s_all_foe_words) (defBody s_all_foe_words) (defScope s_all_foe_words) .none kV_all_foe_words dc_all_foe_words pm_all_foe_words an_all_foe_words cd_all_foe_words ct_all_foe_words,
    f_Lmix := f_Lmix,
    d_Lmix := PySem.W.fnOf "_law_mix" "_law_mix" (defArgs s_Lmix) (defBody s_Lmix) (defScope s_Lmix) .none kV_Lmix dc_Lmix pm_Lmix an_Lmix cd_Lmix ct_Lmix,
    f_Lhand := f_Lhand,
    d_Lhand := PySem.W.fnOf "_law_hand" "_law_hand" (defArgs s_Lhand) (defBody s_Lhand) (defScope s_Lhand) .none kV_Lhand dc_Lhand pm_Lhand an_Lhand cd_Lhand ct_Lhand,
    f_Ldraw := f_Ldraw,
    d_Ldraw := PySem.W.fnOf "_law_draw" "_law_draw" (defArgs s_Ldraw) (defBody s_Ldraw) (defScope s_Ldraw) .none kV_Ldraw dc_Ldraw pm_Ldraw an_Ldraw cd_Ldraw ct_Ldraw,
    f_Lpick := f_Lpick,
    d_Lpick := PySem.W.fnOf "_law_pick" "_law_pick" (defArgs s_Lpick) (defBody s_Lpick) (defScope s_Lpick) .none kV_Lpick dc_Lpick pm_Lpick an_Lpick cd_Lpick ct_Lpick,
    f_Lwhole := f_Lwhole,
    d_Lwhole := PySem.W.fnOf "_law_whole" "_law_whole" (defArgs s_Lwhole) (defBody s_Lwhole) (defScope s_Lwhole) .none kV_Lwhole dc_Lwhole pm_Lwhole an_Lwhole cd_Lwhole ct_Lwhole,
    f_Lis := f_Lis,
    d_Lis := PySem.W.fnOf "_law_is" "_law_is" (defArgs s_Lis) (defBody s_Lis) (defScope s_Lis) .none kV_Lis dc_Lis pm_Lis an_Lis cd_Lis ct_Lis,
    f_Lover := f_Lover,
    d_Lover := PySem.W.fnOf "_law_over" "_law_over" (defArgs s_Lover) (defBody s_Lover) (defScope s_Lover) .none kV_Lover dc_Lover pm_Lover an_Lover cd_Lover ct_Lover,
    f_Lturn := f_Lturn,
    d_Lturn := PySem.W.fnOf "_law_turn" "_law_turn" (defArgs s_Lturn) (defBody s_Lturn) (defScope s_Lturn) .none kV_Lturn dc_Lturn pm_Lturn an_Lturn cd_Lturn ct_Lturn,
    f_Lnexts := f_Lnexts,
    d_Lnexts := PySem.W.fnOf "_law_nexts" "_law_nexts" (defArgs s_Lnexts) (defBody s_Lnexts) (defScope s_Lnexts) .none kV_Lnexts dc_Lnexts pm_Lnexts an_Lnexts cd_Lnexts ct_Lnexts,
    f_Lend := f_Lend,
    d_Lend := PySem.W.fnOf "_law_end" "_law_end" (defArgs s_Lend) (defBody s_Lend) (defScope s_Lend) .none kV_Lend dc_Lend pm_Lend an_Lend cd_Lend ct_Lend,
    f_Lfoe_rows := f_Lfoe_rows,
    d_Lfoe_rows := PySem.W.fnOf "_law_foe_rows" "_law_foe_rows" (defArgs s_Lfoe_rows) (defBody s_Lfoe_rows) (defScope s_Lfoe_rows) .none kV_Lfoe_rows dc_Lfoe_rows pm_Lfoe_rows an_Lfoe_rows cd_Lfoe_rows ct_Lfoe_rows,
    f_Lis_row := f_Lis_row,
    d_Lis_row := PySem.W.fnOf "_law_is_row" "_law_is_row" (defArgs s_Lis_row) (defBody s_Lis_row) (defScope s_Lis_row) .none kV_Lis_row dc_Lis_row pm_Lis_row an_Lis_row cd_Lis_row ct_Lis_row,
    f_Lrefused := f_Lrefused,
    d_Lrefused := PySem.W.fnOf "_law_refused" "_law_refused" (defArgs s_Lrefused) (defBody s_Lrefused) (defScope s_Lrefused) .none kV_Lrefused dc_Lrefused pm_Lrefused an_Lrefused cd_Lrefused ct_Lrefused,
    f_Lasked := f_Lasked,
    d_Lasked := PySem.W.fnOf "_law_asked" "_law_asked" (defArgs s_Lasked) (defBody s_Lasked) (defScope s_Lasked) .none kV_Lasked dc_Lasked pm_Lasked an_Lasked cd_Lasked ct_Lasked,
    f_Lsmall := f_Lsmall,
    d_Lsmall := PySem.W.fnOf "_law_small" "_law_small" (defArgs s_Lsmall) (defBody s_Lsmall) (defScope s_Lsmall) .none kV_Lsmall dc_Lsmall pm_Lsmall an_Lsmall cd_Lsmall ct_Lsmall,
    f_Lrow := f_Lrow,
    d_Lrow := PySem.W.fnOf "_law_row" "_law_row" (defArgs s_Lrow) (defBody s_Lrow) (defScope s_Lrow) .none kV_Lrow dc_Lrow pm_Lrow an_Lrow cd_Lrow ct_Lrow,
    f_Lspoilt := f_Lspoilt,
    d_Lspoilt := PySem.W.fnOf "_law_spoilt" "_law_spoilt" (defArgs s_Lspoilt) (defBody s_Lspoilt) (defScope s_Lspoilt) .none kV_Lspoilt dc_Lspoilt pm_Lspoilt an_Lspoilt cd_Lspoilt ct_Lspoilt,
    f_law := f_law,
    d_law := PySem.W.fnOf "law" "law" (defArgs s_law) (defBody s_law) (defScope s_law) .none kV_law dc_law pm_law an_law cd_law ct_law,
    C_CallError := C_CallError,
    C_BadRow := C_BadRow,
    t_STOP := t_STOP }
  have O : Ok K mg T := {
    F_is_whole := F_is_whole,
    b_is_whole := Jv.bindsD (K := K) (T := q_is_whole) (m := 3) t_is_whole rfl rfl fun us hl => match us, hl with | [_, _, _], _ => ⟨_, rfl, rfl⟩,
    b1_is_whole := ⟨(.cons rfl .nil), Jv.bindsD (K := K) (T := q_is_whole) (m := 2) t_is_whole rfl rfl fun us hl => match us, hl with | [_, _], _ => ⟨_, rfl, rfl⟩⟩,
    b2_is_whole := ⟨(.cons rfl (.cons rfl .nil)), Jv.bindsD (K := K) (T := q_is_whole) (m := 1) t_is_whole rfl rfl fun us hl => match us, hl with | [_], _ => ⟨_, rfl, rfl⟩⟩,
    m_is_whole := PySem.W.mg_of X G a_is_whole,
    F_is_sequence := F_is_sequence,
    b_is_sequence := F_is_sequence.binds (ps := ["thing"]) fun _ _ _ _ _ _ us hl => match us, hl with | [_], _ => rfl,
    m_is_sequence := PySem.W.mg_of X G a_is_sequence,
    F_is_row := F_is_row,
    b_is_row := F_is_row.binds (ps := ["row", "ladder", "foes"]) fun _ _ _ _ _ _ us hl => match us, hl with | [_, _, _], _ => rfl,
    m_is_row := PySem.W.mg_of X G a_is_row,
    F_check_row := F_check_row,
    b_check_row := F_check_row.binds (ps := ["row", "ladder", "foes"]) fun _ _ _ _ _ _ us hl => match us, hl with | [_, _, _], _ => rfl,
    m_check_row := PySem.W.mg_of X G a_check_row,
    F_standing_at := F_standing_at,
    b_standing_at := F_standing_at.binds (ps := ["row"]) fun _ _ _ _ _ _ us hl => match us, hl with | [_], _ => rfl,
    m_standing_at := PySem.W.mg_of X G a_standing_at,
    F_end_at := F_end_at,
    b_end_at := F_end_at.binds (ps := ["row", "foes"]) fun _ _ _ _ _ _ us hl => match us, hl with | [_, _], _ => rfl,
    m_end_at := PySem.W.mg_of X G a_end_at,
    F_is_ended := F_is_ended,
    b_is_ended := F_is_ended.binds (ps := ["row", "foes"]) fun _ _ _ _ _ _ us hl => match us, hl with | [_, _], _ => rfl,
    m_is_ended := PySem.W.mg_of X G a_is_ended,
    F_speaker_at := F_speaker_at,
    b_speaker_at := F_speaker_at.binds (ps := ["row", "foes"]) fun _ _ _ _ _ _ us hl => match us, hl with | [_, _], _ => rfl,
    m_speaker_at := PySem.W.mg_of X G a_speaker_at,
    F_words_of := F_words_of,
    b_words_of := F_words_of.binds (ps := ["row", "foes", "side"]) fun _ _ _ _ _ _ us hl => match us, hl with | [_, _, _], _ => rfl,
    m_words_of := PySem.W.mg_of X G a_words_of,
    F_foe_words_of := F_foe_words_of,
    b_foe_words_of := F_foe_words_of.binds (ps := ["row"]) fun _ _ _ _ _ _ us hl => match us, hl with | [_], _ => rfl,
    m_foe_words_of := PySem.W.mg_of X G a_foe_words_of,
    F_next_words := F_next_words,
    b_next_words := F_next_words.binds (ps := ["ladder", "standing"]) fun _ _ _ _ _ _ us hl => match us, hl with | [_, _], _ => rfl,
    m_next_words := PySem.W.mg_of X G a_next_words,
    F_may_be_said := F_may_be_said,
    b_may_be_said := F_may_be_said.binds (ps := ["word", "ladder", "standing"]) fun _ _ _ _ _ _ us hl => match us, hl with | [_, _, _], _ => rfl,
    m_may_be_said := PySem.W.mg_of X G a_may_be_said,
    F_all_foe_words := F_all_foe_words,
    b_all_foe_words := F_all_foe_words.binds (ps := ["ladder"]) fun _ _ _ _ _ _ us hl => match us, hl with | [_], _ => rfl,
    m_all_foe_words := PySem.W.mg_of X G a_all_foe_words,
    F_Lmix := F_Lmix,
    b_Lmix := F_Lmix.binds (ps := ["_law_number", "_law_turn_here"]) fun _ _ _ _ _ _ us hl => match us, hl with | [_, _], _ => rfl,
    m_Lmix := PySem.W.mg_of X G a_Lmix,
    F_Lhand := F_Lhand,
    b_Lhand := F_Lhand.binds (ps := ["_law_script"]) fun _ _ _ _ _ _ us hl => match us, hl with | [_], _ => rfl,
    m_Lhand := PySem.W.mg_of X G a_Lhand,
    F_Ldraw := F_Ldraw,
    b_Ldraw := F_Ldraw.binds (ps := ["_law_hand_here", "_law_many"]) fun _ _ _ _ _ _ us hl => match us, hl with | [_, _], _ => rfl,
    m_Ldraw := PySem.W.mg_of X G a_Ldraw,
    F_Lpick := F_Lpick,
    b_Lpick := F_Lpick.binds (ps := ["_law_hand_here", "_law_things"]) fun _ _ _ _ _ _ us hl => match us, hl with | [_, _], _ => rfl,
    m_Lpick := PySem.W.mg_of X G a_Lpick,
    F_Lwhole := F_Lwhole,
    b_Lwhole := F_Lwhole.binds (ps := ["_law_thing"]) fun _ _ _ _ _ _ us hl => match us, hl with | [_], _ => rfl,
    m_Lwhole := PySem.W.mg_of X G a_Lwhole,
    F_Lis := F_Lis,
    b_Lis := F_Lis.binds (ps := ["_law_told", "_law_due"]) fun _ _ _ _ _ _ us hl => match us, hl with | [_, _], _ => rfl,
    m_Lis := PySem.W.mg_of X G a_Lis,
    F_Lover := F_Lover,
    b_Lover := F_Lover.binds (ps := ["_law_row_here", "_law_foes"]) fun _ _ _ _ _ _ us hl => match us, hl with | [_, _], _ => rfl,
    m_Lover := PySem.W.mg_of X G a_Lover,
    F_Lturn := F_Lturn,
    b_Lturn := F_Lturn.binds (ps := ["_law_row_here", "_law_foes"]) fun _ _ _ _ _ _ us hl => match us, hl with | [_, _], _ => rfl,
    m_Lturn := PySem.W.mg_of X G a_Lturn,
    F_Lnexts := F_Lnexts,
    b_Lnexts := F_Lnexts.binds (ps := ["_law_ladder", "_law_row_here"]) fun _ _ _ _ _ _ us hl => match us, hl with | [_, _], _ => rfl,
    m_Lnexts := PySem.W.mg_of X G a_Lnexts,
    F_Lend := F_Lend,
    b_Lend := F_Lend.binds (ps := ["_law_row_here", "_law_foes"]) fun _ _ _ _ _ _ us hl => match us, hl with | [_, _], _ => rfl,
    m_Lend := PySem.W.mg_of X G a_Lend,
    F_Lfoe_rows := F_Lfoe_rows,
    b_Lfoe_rows := F_Lfoe_rows.binds (ps := ["_law_ladder"]) fun _ _ _ _ _ _ us hl => match us, hl with | [_], _ => rfl,
    m_Lfoe_rows := PySem.W.mg_of X G a_Lfoe_rows,
    F_Lis_row := F_Lis_row,
    b_Lis_row := F_Lis_row.binds (ps := ["_law_thing", "_law_ladder", "_law_foes"]) fun _ _ _ _ _ _ us hl => match us, hl with | [_, _, _], _ => rfl,
    m_Lis_row := PySem.W.mg_of X G a_Lis_row,
    F_Lrefused := F_Lrefused,
    b_Lrefused := F_Lrefused.binds (ps := ["_law_row_here", "_law_ladder", "_law_foes"]) fun _ _ _ _ _ _ us hl => match us, hl with | [_, _, _], _ => rfl,
    m_Lrefused := PySem.W.mg_of X G a_Lrefused,
    F_Lasked := F_Lasked,
    b_Lasked := F_Lasked.binds (ps := ["_law_thing", "_law_ladder", "_law_foes"]) fun _ _ _ _ _ _ us hl => match us, hl with | [_, _, _], _ => rfl,
    m_Lasked := PySem.W.mg_of X G a_Lasked,
    F_Lsmall := F_Lsmall,
    b_Lsmall := F_Lsmall.binds (ps := ["_law_ladder", "_law_foes"]) fun _ _ _ _ _ _ us hl => match us, hl with | [_, _], _ => rfl,
    m_Lsmall := PySem.W.mg_of X G a_Lsmall,
    F_Lrow := F_Lrow,
    b_Lrow := F_Lrow.binds (ps := ["_law_hand_here", "_law_ladder", "_law_foes"]) fun _ _ _ _ _ _ us hl => match us, hl with | [_, _, _], _ => rfl,
    m_Lrow := PySem.W.mg_of X G a_Lrow,
    F_Lspoilt := F_Lspoilt,
    b_Lspoilt := F_Lspoilt.binds (ps := ["_law_hand_here", "_law_row_here", "_law_ladder"]) fun _ _ _ _ _ _ us hl => match us, hl with | [_, _, _], _ => rfl,
    m_Lspoilt := PySem.W.mg_of X G a_Lspoilt,
    F_law := F_law,
    b_law := F_law.binds (ps := ["_law_script"]) fun _ _ _ _ _ _ us hl => match us, hl with | [_], _ => rfl,
    m_law := PySem.W.mg_of X G a_law,
    m_CallError := PySem.W.mg_of X G a_CallError,
    e_CallError := ⟨x_CallError, k_CallError, b_CallError, t_CallError, i_CallError, s_CallError⟩,
    m_BadRow := PySem.W.mg_of X G a_BadRow,
    e_BadRow := ⟨x_BadRow, k_BadRow, b_BadRow, t_BadRow, i_BadRow, s_BadRow⟩,
    z_ValueError := PySem.W.mg_none_of X G z_ValueError,
    z_abs := PySem.W.mg_none_of X G z_abs,
    z_bool := PySem.W.mg_none_of X G z_bool,
    z_enumerate := PySem.W.mg_none_of X G z_enumerate,
    z_int := PySem.W.mg_none_of X G z_int,
    z_isinstance := PySem.W.mg_none_of X G z_isinstance,
    z_len := PySem.W.mg_none_of X G z_len,
    z_list := PySem.W.mg_none_of X G z_list,
    z_max := PySem.W.mg_none_of X G z_max,
    z_range := PySem.W.mg_none_of X G z_range,
    z_repr := PySem.W.mg_none_of X G z_repr,
    z_tuple := PySem.W.mg_none_of X G z_tuple,
    c_STOP := PySem.W.mg_of X G c_STOP,
    i_BadRow_ga := zz_i_BadRow_ga,
    i_BadRow_gg := zz_i_BadRow_gg,
    i_BadRow_ca := zz_i_BadRow_ca,
    i_BadRow_sp := zz_i_BadRow_sp,
    i_BadRow_tk := zz_i_BadRow_tk,
    i_BadRow_mr := zz_i_BadRow_mr,
    i_BadRow_xc := zz_i_BadRow_xc,
    i_BadRow_xv := zz_i_BadRow_xv }
  exact ⟨T.d_law, fun s v => .of_eq rfl, fun base _ _ => ok_law T O⟩
end K09
open PySem PySem.W PyProof.Rows
set_option maxHeartbeats 0 in
theorem PySem.Challenge.cw_risingcalls_k09_whole_rows_made_and_aske_holds : PySem.Challenge.rw_risingcalls_k09_whole_rows_made_and_aske.Holds := by
  w_on; o_law; k_head; (case hw => w_witness2)
  k_fill
  refine Jv.walkG (l := PySem.Challenge.rw_risingcalls_k09_whole_rows_made_and_aske) (n := 63) (k := 8) (x := "_law_script") (sp := fun w => K09.sp_law _) rfl (by decide) rfl ⟨rfl, by decide, by decide⟩ (fun w h Y => PySem.W.kIn_of Y) ?F (fun _ _ a ns hl _ hS => ⟨a, ns, rfl, hS, hl, fun _ => rfl⟩) (fun _ _ _ _ _ h => h)
  case F =>
    intro w mg fa h KX G hmg
    refine' K09.all_mk KX G hmg ?a_CallError ?a_BadRow ?a_is_whole ?l_is_whole ?c_is_whole ?k_is_whole ?t_is_whole ?a_is_sequence ?l_is_sequence ?c_is_sequence ?k_is_sequence ?a_is_row ?l_is_row ?c_is_row ?k_is_row ?a_check_row ?l_check_row ?c_check_row ?k_check_row ?a_standing_at ?l_standing_at ?c_standing_at ?k_standing_at ?a_end_at ?l_end_at ?c_end_at ?k_end_at ?a_is_ended ?l_is_ended ?c_is_ended ?k_is_ended ?a_speaker_at ?l_speaker_at ?c_speaker_at ?k_speaker_at ?a_words_of ?l_words_of ?c_words_of ?k_words_of ?a_foe_words_of ?l_foe_words_of ?c_foe_words_of ?k_foe_words_of ?a_next_words ?l_next_words ?c_next_words ?k_next_words ?a_may_be_said ?l_may_be_said ?c_may_be_said ?k_may_be_said ?a_all_foe_words ?l_all_foe_words ?c_all_foe_words ?k_all_foe_words ?a_Lmix ?l_Lmix ?c_Lmix ?k_Lmix ?a_Lhand ?l_Lhand ?c_Lhand ?k_Lhand ?a_Ldraw ?l_Ldraw ?c_Ldraw ?k_Ldraw ?a_Lpick ?l_Lpick ?c_Lpick ?k_Lpick ?a_Lwhole ?l_Lwhole ?c_Lwhole ?k_Lwhole ?a_Lis ?l_Lis ?c_Lis ?k_Lis ?a_Lover ?l_Lover ?c_Lover ?k_Lover ?a_Lturn ?l_Lturn ?c_Lturn ?k_Lturn ?a_Lnexts ?l_Lnexts ?c_Lnexts ?k_Lnexts ?a_Lend ?l_Lend ?c_Lend ?k_Lend ?a_Lfoe_rows ?l_Lfoe_rows ?c_Lfoe_rows ?k_Lfoe_rows ?a_Lis_row ?l_Lis_row ?c_Lis_row ?k_Lis_row ?a_Lrefused ?l_Lrefused ?c_Lrefused ?k_Lrefused ?a_Lasked ?l_Lasked ?c_Lasked ?k_Lasked ?a_Lsmall ?l_Lsmall ?c_Lsmall ?k_Lsmall ?a_Lrow ?l_Lrow ?c_Lrow ?k_Lrow ?a_Lspoilt ?l_Lspoilt ?c_Lspoilt ?k_Lspoilt ?a_law ?l_law ?c_law ?k_law ?k_CallError ?b_CallError ?t_CallError ?i_CallError ?s_CallError ?x_CallError ?k_BadRow ?b_BadRow ?t_BadRow ?i_BadRow ?s_BadRow ?x_BadRow ?z_ValueError ?z_abs ?z_bool ?z_enumerate ?z_int ?z_isinstance ?z_len ?z_list ?z_max ?z_range ?z_repr ?z_tuple ?c_STOP ?zz_i_BadRow_ga ?zz_i_BadRow_gg ?zz_i_BadRow_ca ?zz_i_BadRow_sp ?zz_i_BadRow_tk ?zz_i_BadRow_mr ?zz_i_BadRow_xc ?zz_i_BadRow_xv
    (case a_CallError => k_is)
    (case a_BadRow => k_is)
    (case a_is_whole => k_is)
    (case l_is_whole => k_is)
    (case c_is_whole => k_is)
    (case k_is_whole => k_is)
    (case t_is_whole => k_is)
    (case a_is_sequence => k_is)
    (case l_is_sequence => k_is)
    (case c_is_sequence => k_is)
    (case k_is_sequence => k_is)
    (case a_is_row => k_is)
    (case l_is_row => k_is)
    (case c_is_row => k_is)
    (case k_is_row => k_is)
    (case a_check_row => k_is)
    (case l_check_row => k_is)
    (case c_check_row => k_is)
    (case k_check_row => k_is)
    (case a_standing_at => k_is)
    (case l_standing_at => k_is)
    (case c_standing_at => k_is)
    (case k_standing_at => k_is)
    (case a_end_at => k_is)
    (case l_end_at => k_is)
    (case c_end_at => k_is)
    (case k_end_at => k_is)
    (case a_is_ended => k_is)
    (case l_is_ended => k_is)
    (case c_is_ended => k_is)
    (case k_is_ended => k_is)
    (case a_speaker_at => k_is)
    (case l_speaker_at => k_is)
    (case c_speaker_at => k_is)
    (case k_speaker_at => k_is)
    (case a_words_of => k_is)
    (case l_words_of => k_is)
    (case c_words_of => k_is)
    (case k_words_of => k_is)
    (case a_foe_words_of => k_is)
    (case l_foe_words_of => k_is)
    (case c_foe_words_of => k_is)
    (case k_foe_words_of => k_is)
    (case a_next_words => k_is)
    (case l_next_words => k_is)
    (case c_next_words => k_is)
    (case k_next_words => k_is)
    (case a_may_be_said => k_is)
    (case l_may_be_said => k_is)
    (case c_may_be_said => k_is)
    (case k_may_be_said => k_is)
    (case a_all_foe_words => k_is)
    (case l_all_foe_words => k_is)
    (case c_all_foe_words => k_is)
    (case k_all_foe_words => k_is)
    (case a_Lmix => k_is)
    (case l_Lmix => k_is)
    (case c_Lmix => k_is)
    (case k_Lmix => k_is)
    (case a_Lhand => k_is)
    (case l_Lhand => k_is)
    (case c_Lhand => k_is)
    (case k_Lhand => k_is)
    (case a_Ldraw => k_is)
    (case l_Ldraw => k_is)
    (case c_Ldraw => k_is)
    (case k_Ldraw => k_is)
    (case a_Lpick => k_is)
    (case l_Lpick => k_is)
    (case c_Lpick => k_is)
    (case k_Lpick => k_is)
    (case a_Lwhole => k_is)
    (case l_Lwhole => k_is)
    (case c_Lwhole => k_is)
    (case k_Lwhole => k_is)
    (case a_Lis => k_is)
    (case l_Lis => k_is)
    (case c_Lis => k_is)
    (case k_Lis => k_is)
    (case a_Lover => k_is)
    (case l_Lover => k_is)
    (case c_Lover => k_is)
    (case k_Lover => k_is)
    (case a_Lturn => k_is)
    (case l_Lturn => k_is)
    (case c_Lturn => k_is)
    (case k_Lturn => k_is)
    (case a_Lnexts => k_is)
    (case l_Lnexts => k_is)
    (case c_Lnexts => k_is)
    (case k_Lnexts => k_is)
    (case a_Lend => k_is)
    (case l_Lend => k_is)
    (case c_Lend => k_is)
    (case k_Lend => k_is)
    (case a_Lfoe_rows => k_is)
    (case l_Lfoe_rows => k_is)
    (case c_Lfoe_rows => k_is)
    (case k_Lfoe_rows => k_is)
    (case a_Lis_row => k_is)
    (case l_Lis_row => k_is)
    (case c_Lis_row => k_is)
    (case k_Lis_row => k_is)
    (case a_Lrefused => k_is)
    (case l_Lrefused => k_is)
    (case c_Lrefused => k_is)
    (case k_Lrefused => k_is)
    (case a_Lasked => k_is)
    (case l_Lasked => k_is)
    (case c_Lasked => k_is)
    (case k_Lasked => k_is)
    (case a_Lsmall => k_is)
    (case l_Lsmall => k_is)
    (case c_Lsmall => k_is)
    (case k_Lsmall => k_is)
    (case a_Lrow => k_is)
    (case l_Lrow => k_is)
    (case c_Lrow => k_is)
    (case k_Lrow => k_is)
    (case a_Lspoilt => k_is)
    (case l_Lspoilt => k_is)
    (case c_Lspoilt => k_is)
    (case k_Lspoilt => k_is)
    (case a_law => k_is)
    (case l_law => k_is)
    (case c_law => k_is)
    (case k_law => k_is)
    (case k_CallError => k_is)
    (case b_CallError => k_is)
    (case t_CallError => k_is)
    (case i_CallError => k_is)
    (case s_CallError => first | rfl | k_is)
    (case x_CallError => k_exc)
    (case k_BadRow => k_is)
    (case b_BadRow => k_is)
    (case t_BadRow => k_is)
    (case i_BadRow => k_is)
    (case s_BadRow => first | rfl | k_is)
    (case x_BadRow => k_exc)
    (case z_ValueError => k_is)
    (case z_abs => k_is)
    (case z_bool => k_is)
    (case z_enumerate => k_is)
    (case z_int => k_is)
    (case z_isinstance => k_is)
    (case z_len => k_is)
    (case z_list => k_is)
    (case z_max => k_is)
    (case z_range => k_is)
    (case z_repr => k_is)
    (case z_tuple => k_is)
    (case c_STOP => k_is)
    (case zz_i_BadRow_ga => k_is)
    (case zz_i_BadRow_gg => k_is)
    (case zz_i_BadRow_ca => k_is)
    (case zz_i_BadRow_sp => k_is)
    (case zz_i_BadRow_tk => k_is)
    (case zz_i_BadRow_mr => k_is)
    (case zz_i_BadRow_xc => first | rfl | kernel_rfl)
    (case zz_i_BadRow_xv => first | rfl | kernel_rfl)

